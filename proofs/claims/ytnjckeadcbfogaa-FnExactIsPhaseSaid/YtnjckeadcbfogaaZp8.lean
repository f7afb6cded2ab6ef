/- DyC, HeldB, RingS -/
import Derived.Test.YtnjckeadcbfogaaZp3
import Derived.Test.YtnjckeadcbfogaaZp0
import Derived.Test.YtnjckeadcbfogaaZp7
import Derived.Test.YtnjckeadcbfogaaZp6
import Derived.Deep.LoopGhost
import Derived.Deep.RegionWith
import Derived.Deep.RegionHeld3
namespace Go.Proofs.Ytnjckeadcbfogaa
open Go.RowKit RM
set_option linter.unusedVariables false
set_option linter.unusedSimpArgs false
attribute [local irreducible] World.setCell

set_option maxRecDepth 100000 in
set_option maxHeartbeats 2000000 in
theorem cj_i_t (a b c d : Int) (e : Nat) (w : World) (hv : vd a b c d e = true) :
    Calls Try.prog 148 #[dy a b c d (e : Int)] w fun ee w' => ee = .returned (dt a (-d) (-c) (-b) (e : Int) true) ∧ Below w.heap.size w w' := by
  have HX := hid (vd_iff.1 hv).1
  have HV := hid hv
  clear hv
  go_enter Try.func148, Try.ntmps148
  go_wp2_with (first | (go_at_call 127; ((with_reducible refine (ivd_v _ HV.out).mono ?_); rintro ee w1 ⟨rfl, hb1⟩; obtain ⟨hc1, hf1, _⟩ := bcell hb1; have hz1 := hb1.size; (try simp at hz1); (try have hx10 : w.heap.size < w1.heap.size := (by omega)); (try have hx11 : w.heap.size + 1 < w1.heap.size := (by omega)); (try have hx12 : w.heap.size + 1 + 1 < w1.heap.size := (by omega)); (try have hx13 : w.heap.size + 1 + 1 + 1 < w1.heap.size := (by omega)))) | (go_at_call 195; ((with_reducible refine (conj_i_t _ _ _ _ _ HX.out).mono ?_); rintro ee w2 ⟨rfl, hb2⟩; obtain ⟨hc2, hf2, _⟩ := bcell hb2; have hz2 := hb2.size; (try simp at hz2); (try have hx20 : w.heap.size < w2.heap.size := (by omega)); (try have hx21 : w.heap.size + 1 < w2.heap.size := (by omega)); (try have hx22 : w.heap.size + 1 + 1 < w2.heap.size := (by omega)); (try have hx23 : w.heap.size + 1 + 1 + 1 < w2.heap.size := (by omega)))) | go_in)
  refine bodyPost_ret (v := dt a (-d) (-c) (-b) (e : Int) true) (by first | (simp [results, Try.results148, go_sem, *]; done) | (simp (disch := (first | omega | (simp; done) | (simp; omega))) [results, Try.results148, go_sem, *]; done) | (simp only [results, Try.results148]; go_simp; done)) rfl ⟨rfl, ?_⟩
  repeat' (first | (with_reducible exact Below.refl _ _) | (with_reducible refine Below.alloc ?_ ?_ _) | (with_reducible refine Below.drew ?_) | (with_reducible refine Below.setCell ?_ ?_ _) | (with_reducible refine chain ?_ (by assumption) ?_) | omega | (simp; done) | (simp; omega))

set_option maxRecDepth 100000 in
set_option maxHeartbeats 2000000 in
theorem cj_i_f (a b c d e : Int) (w : World) (hv : vi a b c d e = false) :
    Calls Try.prog 148 #[dy a b c d e] w fun ee w' => ee = .returned (dt 0 0 0 0 0 false) ∧ Below w.heap.size w w' := by
  have HV := hid hv
  clear hv
  go_enter Try.func148, Try.ntmps148
  go_wp2_with (first | (go_at_call 127; ((with_reducible refine (ivd_no _ HV.out).mono ?_); rintro ee w1 ⟨rfl, hb1⟩; obtain ⟨hc1, hf1, _⟩ := bcell hb1; have hz1 := hb1.size; (try simp at hz1); (try have hx10 : w.heap.size < w1.heap.size := (by omega)); (try have hx11 : w.heap.size + 1 < w1.heap.size := (by omega)); (try have hx12 : w.heap.size + 1 + 1 < w1.heap.size := (by omega)); (try have hx13 : w.heap.size + 1 + 1 + 1 < w1.heap.size := (by omega)))) | go_in)
  refine bodyPost_ret (v := dt 0 0 0 0 0 false) (by first | (simp [results, Try.results148, go_sem, *]; done) | (simp (disch := (first | omega | (simp; done) | (simp; omega))) [results, Try.results148, go_sem, *]; done) | (simp only [results, Try.results148]; go_simp; done)) rfl ⟨rfl, ?_⟩
  repeat' (first | (with_reducible exact Below.refl _ _) | (with_reducible refine Below.alloc ?_ ?_ _) | (with_reducible refine Below.drew ?_) | (with_reducible refine Below.setCell ?_ ?_ _) | (with_reducible refine chain ?_ (by assumption) ?_) | omega | (simp; done) | (simp; omega))

set_option maxRecDepth 100000 in
set_option maxHeartbeats 2000000 in
theorem lcj (a b c d : Int) (w : World) (hx : vr a b c d = true) :
    Calls Try.prog 165 #[rg a b c d] w fun ee w' => ee = .returned (rg a (-d) (-c) (-b)) ∧ Below w.heap.size w w' := by
  obtain ⟨⟨a1, a2⟩, ⟨b1, b2⟩, ⟨c1, c2⟩, ⟨d1, d2⟩⟩ := vr_iff.1 hx
  have HX := hid hx
  clear hx
  go_enter Try.func165, Try.ntmps165
  go_wp2_with (first | go_in)
  refine bodyPost_ret (v := rg a (-d) (-c) (-b)) (by first | (simp [results, Try.results165, go_sem, *]; done) | (simp (disch := (first | omega | (simp; done) | (simp; omega))) [results, Try.results165, go_sem, *]; done) | (simp only [results, Try.results165]; go_simp; done)) rfl ⟨rfl, ?_⟩
  repeat' (first | (with_reducible exact Below.refl _ _) | (with_reducible refine Below.alloc ?_ ?_ _) | (with_reducible refine Below.drew ?_) | (with_reducible refine Below.setCell ?_ ?_ _) | (with_reducible refine chain ?_ (by assumption) ?_) | omega | (simp; done) | (simp; omega))

set_option maxRecDepth 100000 in
set_option maxHeartbeats 4000000 in
theorem l2cj (a b c d e : Int) (w : World) (hx : vr a b c d = true) :
    Calls Try.prog 110 #[dy a b c d e] w fun ee w' => ee = .returned (dy a (-d) (-c) (-b) e) ∧ Below w.heap.size w w' := by
  obtain ⟨⟨a1, a2⟩, ⟨b1, b2⟩, ⟨c1, c2⟩, ⟨d1, d2⟩⟩ := vr_iff.1 hx
  have HX := hid hx
  clear hx
  go_enter Try.func110, Try.ntmps110
  go_wp2
  go_region_with (first
   | (go_at_call 165; ((with_reducible refine (lcj _ _ _ _ _ HX.out).mono ?_); rintro ee w1 ⟨rfl, hb1⟩; ((first | (have hq1 := bcell_drew hb1) | (have hq1 := bcell hb1))); obtain ⟨hc1, hf1, hz1⟩ := hq1; (try simp at hz1); (try have hx10 : w.heap.size < w1.heap.size := (by omega)); (try have hx11 : w.heap.size + 1 < w1.heap.size := (by omega)); (try have hx12 : w.heap.size + 1 + 1 < w1.heap.size := (by omega)); (try have hx13 : w.heap.size + 1 + 1 + 1 < w1.heap.size := (by omega)))))
  all_goals (go_wp2; refine bodyPost_ret (v := dy a (-d) (-c) (-b) e) (by first | (simp [results, Try.results110, go_sem, *]; done) | (simp (disch := (first | omega | (simp; done) | (simp; omega))) [results, Try.results110, go_sem, *]; done) | (simp only [results, Try.results110]; go_simp; done)) rfl ⟨rfl, ?_⟩)
  all_goals (repeat' (first | (with_reducible exact Below.refl _ _) | (with_reducible refine Below.alloc ?_ ?_ _) | (with_reducible refine Below.drew ?_) | (with_reducible refine Below.setCell ?_ ?_ _) | (with_reducible refine chain ?_ (by assumption) ?_) | omega | (simp; done) | (simp; omega)))
end Go.Proofs.Ytnjckeadcbfogaa
namespace Go.Proofs.Ytnjckeadcbfogaa
open Go.RowKit
/-- a cell that is there: behind a call, behind a new block, behind a store of four cells into a newer block -/
theorem kc {a b : World} {k o : Nat} {v : Value} (hb : Below a.heap.size a b) (h : a.cell? ⟨k, o, none⟩ = some v) : b.cell? ⟨k, o, none⟩ = some v :=
  ((bcell hb).1 k o (World.block_lt_of_cell? a _ h)).trans h
theorem kal {a : World} {x : Obj} {k o : Nat} {v : Value} (h : a.cell? ⟨k, o, none⟩ = some v) : (a.alloc x).cell? ⟨k, o, none⟩ = some v :=
  kc ((Below.refl _ _).alloc (Nat.le_refl _) _) h
theorem kald {a : World} {x : Obj} {k o : Nat} {v : Value} (h : a.drew.cell? ⟨k, o, none⟩ = some v) : (a.alloc x).drew.cell? ⟨k, o, none⟩ = some v :=
  kal (a := a) h
/-- a store that is folded into the new block -/
theorem kre {a : World} {x y : Obj} {k o : Nat} {v : Value} (hk : k < a.heap.size) (h : (a.alloc x).cell? ⟨k, o, none⟩ = some v) : (a.alloc y).cell? ⟨k, o, none⟩ = some v := by
  rw [World.cell?_alloc_lt _ _ _ hk]
  rw [World.cell?_alloc_lt _ _ _ hk] at h
  exact h
end Go.Proofs.Ytnjckeadcbfogaa
namespace Go.Proofs.Ytnjckeadcbfogaa
open Go.RowKit RM
set_option linter.unusedVariables false
set_option linter.unusedSimpArgs false
attribute [local irreducible] World.setCell
theorem wr64 {x : Int} (h1 : -9223372036854775808 ≤ x) (h2 : x ≤ 9223372036854775807) : IntKind.i64.wrap x = x := by
  rw [IntKind.wrap_i64]; first | omega | (simp only [wrap64]; omega) | (rw [Int.bmod_def]; omega)
theorem l2lowx (a b c d x : Int) (e : Nat) (A B C D : Int) (E : Nat) (w : World) (hn : x = (e : Int)) (hx : vr a b c d = true) (he : e ≤ 60) (hl : low e a b c d = ⟨A, B, C, D, E⟩) :
    Calls Try.prog 162 #[rg a b c d, .int .i64 x] w fun ee w' => ee = .returned (dy A B C D E) ∧ Below w.heap.size w w' := by
  subst hn; exact l2low a b c d e A B C D E w hx he hl
theorem dofx (a b c d x : Int) (e : Nat) (A B C D : Int) (E : Nat) (w : World) (hn : x = (e : Int)) (hx : vr a b c d = true) (he : e ≤ 60) (hl : low e a b c d = ⟨A, B, C, D, E⟩) :
    Calls Try.prog 169 #[rg a b c d, .int .i64 x] w fun ee w' => ee = .returned (dt A B C D E true) ∧ Below w.heap.size w w' := by
  subst hn; exact dof_t a b c d e A B C D E w hx he hl
theorem ks5 {a : World} {g k o : Nat} {v v0 v1 v2 v3 v4 : Value} (hne : g ≠ k) (h : a.cell? ⟨k, o, none⟩ = some v) : (((((a.setCell ⟨g, 0, none⟩ v0).setCell ⟨g, 1, none⟩ v1).setCell ⟨g, 2, none⟩ v2).setCell ⟨g, 3, none⟩ v3).setCell ⟨g, 4, none⟩ v4).cell? ⟨k, o, none⟩ = some v := by
  rw [World.cell?_setCell_far _ _ _ _ hne, World.cell?_setCell_far _ _ _ _ hne, World.cell?_setCell_far _ _ _ _ hne, World.cell?_setCell_far _ _ _ _ hne, World.cell?_setCell_far _ _ _ _ hne, h]
/-- a cell behind a call that has set another one -/
theorem kcs {a b : World} {g k o : Nat} {u v : Value} (hb : Below a.heap.size (a.setCell ⟨g, 0, none⟩ u) b) (hne : g ≠ k) (h : a.cell? ⟨k, o, none⟩ = some v) : b.cell? ⟨k, o, none⟩ = some v :=
  (hb.cell (p := ⟨k, o, none⟩) (World.block_lt_of_cell? a _ h)).trans ((World.cell?_setCell_far _ _ _ _ hne).trans h)
theorem kfs {a b : World} {g k o : Nat} {u : Value} (hb : Below a.heap.size (a.setCell ⟨g, 0, none⟩ u) b) (hk : k < a.heap.size) (h : a.frozen? ⟨k, o, none⟩ = false) : b.frozen? ⟨k, o, none⟩ = false :=
  (hb.frozen (p := ⟨k, o, none⟩) hk).trans ((World.frozen?_setCell _ _ _ _).trans h)
theorem bcellB {B : Nat} {W w1 : World} (hb : Below B W w1) : (∀ b o, b < B → w1.cell? ⟨b, o, none⟩ = W.cell? ⟨b, o, none⟩) ∧ (∀ b o, b < B → w1.frozen? ⟨b, o, none⟩ = W.frozen? ⟨b, o, none⟩) ∧ W.heap.size ≤ w1.heap.size :=
  ⟨fun b o h => hb.cell (p := ⟨b, o, none⟩) h, fun b o h => hb.frozen (p := ⟨b, o, none⟩) h, hb.size⟩
theorem kf {a b : World} {k o : Nat} {v : Value} (hb : Below a.heap.size a b) (h : a.cell? ⟨k, o, none⟩ = some v) (hf : a.frozen? ⟨k, o, none⟩ = false) : b.frozen? ⟨k, o, none⟩ = false :=
  (hb.frozen (p := ⟨k, o, none⟩) (World.block_lt_of_cell? a _ h)).trans hf
set_option maxHeartbeats 1000000 in
theorem C5.put {W : World} {k : Nat} {a b c d e : Int} (h : C5 W k a b c d e) (a' b' c' d' e' : Int) : C5 (((((W.setCell ⟨k, 0, none⟩ (.int .i64 a')).setCell ⟨k, 1, none⟩ (.int .i64 b')).setCell ⟨k, 2, none⟩ (.int .i64 c')).setCell ⟨k, 3, none⟩ (.int .i64 d')).setCell ⟨k, 4, none⟩ (.int .i64 e')) k a' b' c' d' e' := by
  obtain ⟨h0, h1, h2, h3, h4, h5, h6, h7, h8, h9⟩ := h
  exact ⟨by go_simp, by go_simp, by go_simp, by go_simp, by go_simp, by go_simp, by go_simp, by go_simp, by go_simp, by go_simp⟩
theorem C5.far {W : World} {k g : Nat} {a b c d e : Int} {v0 v1 v2 v3 v4 : Value} (h : C5 W k a b c d e) (hne : g ≠ k) : C5 (((((W.setCell ⟨g, 0, none⟩ v0).setCell ⟨g, 1, none⟩ v1).setCell ⟨g, 2, none⟩ v2).setCell ⟨g, 3, none⟩ v3).setCell ⟨g, 4, none⟩ v4) k a b c d e :=
  ⟨ks5 hne h.c0, ks5 hne h.c1, ks5 hne h.c2, ks5 hne h.c3, ks5 hne h.c4, by simp [h.f0], by simp [h.f1], by simp [h.f2], by simp [h.f3], by simp [h.f4]⟩
theorem C5.al {W : World} {o : Obj} {k : Nat} {a b c d e : Int} (h : C5 W k a b c d e) : C5 (W.alloc o) k a b c d e := h.mono ((Below.refl _ _).alloc (Nat.le_refl _) _)
theorem C5.monos {W W' : World} {k g : Nat} {u : Value} {a b c d e : Int} (h : C5 W k a b c d e) (hne : g ≠ k) (hb : Below W.heap.size (W.setCell ⟨g, 0, none⟩ u) W') : C5 W' k a b c d e :=
  ⟨kcs hb hne h.c0, kcs hb hne h.c1, kcs hb hne h.c2, kcs hb hne h.c3, kcs hb hne h.c4, kfs hb h.lt h.f0, kfs hb h.lt h.f1, kfs hb h.lt h.f2, kfs hb h.lt h.f3, kfs hb h.lt h.f4⟩
theorem C5.drew {W : World} {k : Nat} {a b c d e : Int} (h : C5 W k a b c d e) : C5 W.drew k a b c d e := ⟨h.c0, h.c1, h.c2, h.c3, h.c4, h.f0, h.f1, h.f2, h.f3, h.f4⟩

set_option maxRecDepth 100000 in
set_option maxHeartbeats 2000000 in
theorem lrt (a b c d : Int) (w : World) (hx : vr a b c d = true) :
    Calls Try.prog 161 #[rg a b c d] w fun ee w' => ee = .returned (rg (b - d) (a + c) (b + d) (c - a)) ∧ Below w.heap.size w w' := by
  obtain ⟨⟨a1, a2⟩, ⟨b1, b2⟩, ⟨c1, c2⟩, ⟨d1, d2⟩⟩ := vr_iff.1 hx
  have HX := hid hx
  clear hx
  go_enter Try.func161, Try.ntmps161
  go_wp2_with (first | go_in)
  refine bodyPost_ret (v := rg (b - d) (a + c) (b + d) (c - a)) (by first | (simp [results, Try.results161, go_sem, *]; done) | (simp (disch := (first | omega | (simp; done) | (simp; omega))) [results, Try.results161, go_sem, *]; done) | (simp only [results, Try.results161]; go_simp; done)) rfl ⟨rfl, ?_⟩
  repeat' (first | (with_reducible exact Below.refl _ _) | (with_reducible refine Below.alloc ?_ ?_ _) | (with_reducible refine Below.drew ?_) | (with_reducible refine Below.setCell ?_ ?_ _) | (with_reducible refine chain ?_ (by assumption) ?_) | omega | (simp; done) | (simp; omega))

set_option maxRecDepth 100000 in
set_option maxHeartbeats 2000000 in
theorem ring_t (g : Nat) (a b c d : Int) (w : World) (hx : vr a b c d = true) :
    Calls Try.prog 160 #[.pointer (some ⟨g, 0, none⟩), rg a b c d] w fun ee w' => ee = .returned (rg a b c d) ∧ Below w.heap.size w w' := by
  have HX := hid hx
  clear hx
  go_enter Try.func160, Try.ntmps160
  go_wp2_with (first | (go_at_call 191; ((with_reducible refine (lg_t _ _ _ _ _ HX.out).mono ?_); rintro ee w1 ⟨rfl, hb1⟩; obtain ⟨hc1, hf1, _⟩ := bcell hb1; have hz1 := hb1.size; (try simp at hz1); (try have hx10 : w.heap.size < w1.heap.size := (by omega)); (try have hx11 : w.heap.size + 1 < w1.heap.size := (by omega)); (try have hx12 : w.heap.size + 1 + 1 < w1.heap.size := (by omega)); (try have hx13 : w.heap.size + 1 + 1 + 1 < w1.heap.size := (by omega)))) | go_in)
  refine bodyPost_ret (v := rg a b c d) (by first | (simp [results, Try.results160, go_sem, *]; done) | (simp (disch := (first | omega | (simp; done) | (simp; omega))) [results, Try.results160, go_sem, *]; done) | (simp only [results, Try.results160]; go_simp; done)) rfl ⟨rfl, ?_⟩
  repeat' (first | (with_reducible exact Below.refl _ _) | (with_reducible refine Below.alloc ?_ ?_ _) | (with_reducible refine Below.drew ?_) | (with_reducible refine Below.setCell ?_ ?_ _) | (with_reducible refine chain ?_ (by assumption) ?_) | omega | (simp; done) | (simp; omega))

set_option maxRecDepth 100000 in
set_option maxHeartbeats 2000000 in
theorem ring_f (g : Nat) (a b c d : Int) (z : Bool) (w : World) (h0 : w.cell? ⟨g, 0, none⟩ = some (.bool z)) (f0 : w.frozen? ⟨g, 0, none⟩ = false) (hx : vr a b c d = false) :
    Calls Try.prog 160 #[.pointer (some ⟨g, 0, none⟩), rg a b c d] w fun ee w' => ee = .returned (rg 0 0 0 0) ∧ Below w.heap.size (w.setCell ⟨g, 0, none⟩ (.bool true)) w' := by
  have hg := World.block_lt_of_cell? w _ h0
  have hg2 : g < w.heap.size := hg
  have HX := hid hx
  clear hx
  go_enter Try.func160, Try.ntmps160
  go_wp2_with (first | (go_at_call 191; ((with_reducible refine (lg_f _ _ _ _ _ HX.out).mono ?_); rintro ee w1 ⟨rfl, hb1⟩; obtain ⟨hc1, hf1, _⟩ := bcell hb1; have hz1 := hb1.size; (try simp at hz1); (try have hx10 : w.heap.size < w1.heap.size := (by omega)); (try have hx11 : w.heap.size + 1 < w1.heap.size := (by omega)); (try have hx12 : w.heap.size + 1 + 1 < w1.heap.size := (by omega)); (try have hx13 : w.heap.size + 1 + 1 + 1 < w1.heap.size := (by omega)); have gc1 : w1.cell? ⟨g, 0, none⟩ = some (.bool z) := (by rw [hc1 _ _ (by first | omega | (simp; done) | (simp; omega))]; first | assumption | go_simp); have gf1 : w1.frozen? ⟨g, 0, none⟩ = false := (by rw [hf1 _ _ (by first | omega | (simp; done) | (simp; omega))]; first | assumption | go_simp))) | go_in)
  refine bodyPost_ret (v := rg 0 0 0 0) (by first | (simp [results, Try.results160, go_sem, *]; done) | (simp (disch := (first | omega | (simp; done) | (simp; omega))) [results, Try.results160, go_sem, *]; done) | (simp only [results, Try.results160]; go_simp; done)) rfl ⟨rfl, ?_⟩
  repeat' (first | (with_reducible assumption) | (with_reducible exact Below.refl _ _) | (with_reducible refine Below.alloc ?_ ?_ _) | (with_reducible refine Below.drew ?_) | (with_reducible refine both ?_ _ _ ?_ _) | (with_reducible refine Below.setCell ?_ ?_ _) | (with_reducible refine chain2 ?_ (by with_reducible assumption) ?_) | (with_reducible refine chain ?_ (by with_reducible assumption) ?_) | omega | (simp; done) | (simp; omega))

set_option maxRecDepth 100000 in
set_option maxHeartbeats 2000000 in
theorem out_t (g : Nat) (a b c d e : Int) (w : World) (h0 : w.cell? ⟨g, 0, none⟩ = some (.bool false)) :
    Calls Try.prog 111 #[.pointer (some ⟨g, 0, none⟩), dy a b c d e] w fun ee w' => ee = .returned (dt a b c d e true) ∧ Below w.heap.size w w' := by
  have hg := World.block_lt_of_cell? w _ h0
  have hg2 : g < w.heap.size := hg
  go_enter Try.func111, Try.ntmps111
  go_wp2_with (first | go_in)
  refine bodyPost_ret (v := dt a b c d e true) (by first | (simp [results, Try.results111, go_sem, *]; done) | (simp (disch := (first | omega | (simp; done) | (simp; omega))) [results, Try.results111, go_sem, *]; done) | (simp only [results, Try.results111]; go_simp; done)) rfl ⟨rfl, ?_⟩
  repeat' (first | (with_reducible exact Below.refl _ _) | (with_reducible refine Below.alloc ?_ ?_ _) | (with_reducible refine Below.drew ?_) | (with_reducible refine Below.setCell ?_ ?_ _) | (with_reducible refine chain ?_ (by assumption) ?_) | omega | (simp; done) | (simp; omega))

set_option maxRecDepth 100000 in
set_option maxHeartbeats 2000000 in
theorem out_f (g : Nat) (a b c d e : Int) (w : World) (h0 : w.cell? ⟨g, 0, none⟩ = some (.bool true)) :
    Calls Try.prog 111 #[.pointer (some ⟨g, 0, none⟩), dy a b c d e] w fun ee w' => ee = .returned (dt 0 0 0 0 0 false) ∧ Below w.heap.size w w' := by
  have hg := World.block_lt_of_cell? w _ h0
  have hg2 : g < w.heap.size := hg
  go_enter Try.func111, Try.ntmps111
  go_wp2_with (first | go_in)
  refine bodyPost_ret (v := dt 0 0 0 0 0 false) (by first | (simp [results, Try.results111, go_sem, *]; done) | (simp (disch := (first | omega | (simp; done) | (simp; omega))) [results, Try.results111, go_sem, *]; done) | (simp only [results, Try.results111]; go_simp; done)) rfl ⟨rfl, ?_⟩
  repeat' (first | (with_reducible exact Below.refl _ _) | (with_reducible refine Below.alloc ?_ ?_ _) | (with_reducible refine Below.drew ?_) | (with_reducible refine Below.setCell ?_ ?_ _) | (with_reducible refine chain ?_ (by assumption) ?_) | omega | (simp; done) | (simp; omega))
end Go.Proofs.Ytnjckeadcbfogaa
