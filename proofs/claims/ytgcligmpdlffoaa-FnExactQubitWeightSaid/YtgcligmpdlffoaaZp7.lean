/- DivEx, DRootS, LawHelp, DyA, DRootI, DyB -/
import Derived.Test.YtgcligmpdlffoaaZp1
import Derived.Test.YtgcligmpdlffoaaZp5
import Derived.RegionTactic
import Derived.BigRegion
import Derived.Deep.LoopGhost
namespace Go.Proofs.Ytgcligmpdlffoaa
open Go.RowKit RM
set_option linter.unusedVariables false
set_option linter.unusedSimpArgs false
theorem tdiv_bd2 {a n : Int} (ha : -2000000000 ≤ a ∧ a ≤ 2000000000) : -2000000000 ≤ a.tdiv n ∧ a.tdiv n ≤ 2000000000 := by
  have h := Int.natAbs_tdiv_le_natAbs a n
  omega

set_option maxRecDepth 100000 in
set_option maxHeartbeats 4000000 in
theorem de_t (a b c d n : Int) (w : World) (ha : -2000000000 ≤ a ∧ a ≤ 2000000000) (hb : -2000000000 ≤ b ∧ b ≤ 2000000000) (hc : -2000000000 ≤ c ∧ c ≤ 2000000000) (hd : -2000000000 ≤ d ∧ d ≤ 2000000000) (hn : n ≠ 0) (hn0 : -9000000000000000000 ≤ n) (hn1 : n ≤ 9000000000000000000) (hr : (a.tmod n == 0 && (b.tmod n == 0 && (c.tmod n == 0 && d.tmod n == 0))) = true) (hv : vr (a.tdiv n) (b.tdiv n) (c.tdiv n) (d.tdiv n) = true) :
    Calls Try.prog 191 #[rg a b c d, .int .i64 n] w fun e w' => e = .returned (rt (a.tdiv n) (b.tdiv n) (c.tdiv n) (d.tdiv n) true) ∧ Below w.heap.size w w' := by
  have he := fun w => run_neq4 (a.tmod n) (b.tmod n) (c.tmod n) (d.tmod n) 0 0 0 0 true w hr
  obtain ⟨ta1, ta2⟩ := tdiv_bd2 (n := n) ha
  obtain ⟨tb1, tb2⟩ := tdiv_bd2 (n := n) hb
  obtain ⟨tc1, tc2⟩ := tdiv_bd2 (n := n) hc
  obtain ⟨td1, td2⟩ := tdiv_bd2 (n := n) hd
  clear hr
  have HV := hid hv
  clear hv
  obtain ⟨a1, a2⟩ := ha
  obtain ⟨b1, b2⟩ := hb
  obtain ⟨c1, c2⟩ := hc
  obtain ⟨d1, d2⟩ := hd
  have h0 : (n == 0) = false := by simp [hn]
  have i0 := fun w => (ix a b c d w).1
  have i1 := fun w => (ix a b c d w).2.1
  have i2 := fun w => (ix a b c d w).2.2.1
  have i3 := fun w => (ix a b c d w).2.2.2
  go_enter Try.func191, Try.ntmps191
  go_wp2_with fail
  refine wp_loop_rounds 5 ?_
  rw [rounds_succ]; go_wp2_with fail
  go_region
  go_wp2_with fail
  rw [rounds_succ]; go_wp2_with fail
  go_region
  go_wp2_with fail
  rw [rounds_succ]; go_wp2_with fail
  go_region
  go_wp2_with fail
  rw [rounds_succ]; go_wp2_with fail
  go_region
  go_wp2_with fail
  rw [rounds_succ]; go_wp2_with (first | (go_at_call 175; ((with_reducible refine (ro_t _ _ _ _ _ HV.out).mono ?_); rintro e w1 ⟨rfl, hb1⟩; obtain ⟨hc1, hf1, _⟩ := bcell hb1; have hz1 := hb1.size; (try simp at hz1); (try have hx10 : w.heap.size < w1.heap.size := (by omega)); (try have hx11 : w.heap.size + 1 < w1.heap.size := (by omega)); (try have hx12 : w.heap.size + 1 + 1 < w1.heap.size := (by omega)); (try have hx13 : w.heap.size + 1 + 1 + 1 < w1.heap.size := (by omega)); have zc0 : w1.cell? ⟨w.heap.size + 1, 0, none⟩ = some (.int .i64 0) := (by rw [hc1 _ _ (by first | omega | (simp; done) | (simp; omega))]; go_simp); have zc1 : w1.cell? ⟨w.heap.size + 1, 1, none⟩ = some (.int .i64 0) := (by rw [hc1 _ _ (by first | omega | (simp; done) | (simp; omega))]; go_simp); have zc2 : w1.cell? ⟨w.heap.size + 1, 2, none⟩ = some (.int .i64 0) := (by rw [hc1 _ _ (by first | omega | (simp; done) | (simp; omega))]; go_simp); have zc3 : w1.cell? ⟨w.heap.size + 1, 3, none⟩ = some (.int .i64 0) := (by rw [hc1 _ _ (by first | omega | (simp; done) | (simp; omega))]; go_simp); have zf0 : w1.frozen? ⟨w.heap.size + 1, 0, none⟩ = false := (by rw [hf1 _ _ (by first | omega | (simp; done) | (simp; omega))]; go_simp); have zf1 : w1.frozen? ⟨w.heap.size + 1, 1, none⟩ = false := (by rw [hf1 _ _ (by first | omega | (simp; done) | (simp; omega))]; go_simp); have zf2 : w1.frozen? ⟨w.heap.size + 1, 2, none⟩ = false := (by rw [hf1 _ _ (by first | omega | (simp; done) | (simp; omega))]; go_simp); have zf3 : w1.frozen? ⟨w.heap.size + 1, 3, none⟩ = false := (by rw [hf1 _ _ (by first | omega | (simp; done) | (simp; omega))]; go_simp))) | go_in)
  refine bodyPost_ret (v := rt (a.tdiv n) (b.tdiv n) (c.tdiv n) (d.tdiv n) true) (by first | (simp [results, Try.results191, go_sem, *]; done) | (simp (disch := (first | omega | (simp; done) | (simp; omega))) [results, Try.results191, go_sem, *]; done)) rfl ⟨rfl, ?_⟩
  repeat' (first | (with_reducible exact Below.refl _ _) | (with_reducible refine Below.alloc ?_ ?_ _) | (with_reducible refine Below.drew ?_) | (with_reducible refine Below.setCell ?_ ?_ _) | (with_reducible refine chain ?_ (by assumption) ?_) | omega | (simp; done) | (simp; omega))

set_option maxRecDepth 100000 in
set_option maxHeartbeats 4000000 in
theorem de_r (a b c d n : Int) (w : World) (ha : -2000000000 ≤ a ∧ a ≤ 2000000000) (hb : -2000000000 ≤ b ∧ b ≤ 2000000000) (hc : -2000000000 ≤ c ∧ c ≤ 2000000000) (hd : -2000000000 ≤ d ∧ d ≤ 2000000000) (hn : n ≠ 0) (hn0 : -9000000000000000000 ≤ n) (hn1 : n ≤ 9000000000000000000) (hr : (a.tmod n == 0 && (b.tmod n == 0 && (c.tmod n == 0 && d.tmod n == 0))) = false) :
    Calls Try.prog 191 #[rg a b c d, .int .i64 n] w fun e w' => e = .returned (rt 0 0 0 0 false) ∧ Below w.heap.size w w' := by
  have he := fun w => run_neq4 (a.tmod n) (b.tmod n) (c.tmod n) (d.tmod n) 0 0 0 0 false w hr
  obtain ⟨ta1, ta2⟩ := tdiv_bd2 (n := n) ha
  obtain ⟨tb1, tb2⟩ := tdiv_bd2 (n := n) hb
  obtain ⟨tc1, tc2⟩ := tdiv_bd2 (n := n) hc
  obtain ⟨td1, td2⟩ := tdiv_bd2 (n := n) hd
  clear hr
  obtain ⟨a1, a2⟩ := ha
  obtain ⟨b1, b2⟩ := hb
  obtain ⟨c1, c2⟩ := hc
  obtain ⟨d1, d2⟩ := hd
  have h0 : (n == 0) = false := by simp [hn]
  have i0 := fun w => (ix a b c d w).1
  have i1 := fun w => (ix a b c d w).2.1
  have i2 := fun w => (ix a b c d w).2.2.1
  have i3 := fun w => (ix a b c d w).2.2.2
  go_enter Try.func191, Try.ntmps191
  go_wp2_with fail
  refine wp_loop_rounds 5 ?_
  rw [rounds_succ]; go_wp2_with fail
  go_region
  go_wp2_with fail
  rw [rounds_succ]; go_wp2_with fail
  go_region
  go_wp2_with fail
  rw [rounds_succ]; go_wp2_with fail
  go_region
  go_wp2_with fail
  rw [rounds_succ]; go_wp2_with fail
  go_region
  go_wp2_with fail
  rw [rounds_succ]; go_wp2_with (first | go_in)
  refine bodyPost_ret (v := rt 0 0 0 0 false) (by first | (simp [results, Try.results191, go_sem, *]; done) | (simp (disch := (first | omega | (simp; done) | (simp; omega))) [results, Try.results191, go_sem, *]; done)) rfl ⟨rfl, ?_⟩
  repeat' (first | (with_reducible exact Below.refl _ _) | (with_reducible refine Below.alloc ?_ ?_ _) | (with_reducible refine Below.drew ?_) | (with_reducible refine Below.setCell ?_ ?_ _) | (with_reducible refine chain ?_ (by assumption) ?_) | omega | (simp; done) | (simp; omega))
end Go.Proofs.Ytgcligmpdlffoaa
namespace Go.Proofs.Ytgcligmpdlffoaa
open Go.RowKit RM
set_option linter.unusedVariables false
set_option linter.unusedSimpArgs false

set_option maxRecDepth 100000 in
set_option maxHeartbeats 1000000 in
theorem ev_t (a b c d : Int) (w : World) (k1 : ((a + c).tmod 2 == 0) = true) (k2 : ((b + d).tmod 2 == 0) = true) (hx : vr a b c d = true) :
    Calls Try.prog 169 #[rg a b c d] w fun e w' => e = .returned (.bool true) ∧ Below w.heap.size w w' := by
  obtain ⟨⟨a1, a2⟩, ⟨b1, b2⟩, ⟨c1, c2⟩, ⟨d1, d2⟩⟩ := vr_iff.1 hx
  have HX := hid hx
  clear hx
  go_enter Try.func169, Try.ntmps169
  go_wp2_with (first | go_in)
  go_ret
  refine ⟨rfl, ?_⟩
  repeat' (first | (with_reducible exact Below.refl _ _) | (with_reducible refine Below.alloc ?_ ?_ _) | (with_reducible refine Below.drew ?_) | (with_reducible refine Below.setCell ?_ ?_ _) | (with_reducible refine chain ?_ (by assumption) ?_) | omega | (simp; done) | (simp; omega))

set_option maxRecDepth 100000 in
set_option maxHeartbeats 1000000 in
theorem ev_1 (a b c d : Int) (w : World) (k1 : ((a + c).tmod 2 == 0) = false) (hx : vr a b c d = true) :
    Calls Try.prog 169 #[rg a b c d] w fun e w' => e = .returned (.bool false) ∧ Below w.heap.size w w' := by
  obtain ⟨⟨a1, a2⟩, ⟨b1, b2⟩, ⟨c1, c2⟩, ⟨d1, d2⟩⟩ := vr_iff.1 hx
  have HX := hid hx
  clear hx
  go_enter Try.func169, Try.ntmps169
  go_wp2_with (first | go_in)
  go_ret
  refine ⟨rfl, ?_⟩
  repeat' (first | (with_reducible exact Below.refl _ _) | (with_reducible refine Below.alloc ?_ ?_ _) | (with_reducible refine Below.drew ?_) | (with_reducible refine Below.setCell ?_ ?_ _) | (with_reducible refine chain ?_ (by assumption) ?_) | omega | (simp; done) | (simp; omega))

set_option maxRecDepth 100000 in
set_option maxHeartbeats 1000000 in
theorem ev_2 (a b c d : Int) (w : World) (k1 : ((a + c).tmod 2 == 0) = true) (k2 : ((b + d).tmod 2 == 0) = false) (hx : vr a b c d = true) :
    Calls Try.prog 169 #[rg a b c d] w fun e w' => e = .returned (.bool false) ∧ Below w.heap.size w w' := by
  obtain ⟨⟨a1, a2⟩, ⟨b1, b2⟩, ⟨c1, c2⟩, ⟨d1, d2⟩⟩ := vr_iff.1 hx
  have HX := hid hx
  clear hx
  go_enter Try.func169, Try.ntmps169
  go_wp2_with (first | go_in)
  go_ret
  refine ⟨rfl, ?_⟩
  repeat' (first | (with_reducible exact Below.refl _ _) | (with_reducible refine Below.alloc ?_ ?_ _) | (with_reducible refine Below.drew ?_) | (with_reducible refine Below.setCell ?_ ?_ _) | (with_reducible refine chain ?_ (by assumption) ?_) | omega | (simp; done) | (simp; omega))

set_option maxRecDepth 100000 in
set_option maxHeartbeats 2000000 in
theorem hf (a b c d : Int) (w : World) (hx : vr a b c d = true) :
    Calls Try.prog 172 #[rg a b c d] w fun e w' => e = .returned (rg ((b - d).tdiv 2) ((a + c).tdiv 2) ((b + d).tdiv 2) ((c - a).tdiv 2)) ∧ Below w.heap.size w w' := by
  obtain ⟨⟨a1, a2⟩, ⟨b1, b2⟩, ⟨c1, c2⟩, ⟨d1, d2⟩⟩ := vr_iff.1 hx
  obtain ⟨x1, x2⟩ := tdiv_bd2 (a := b - d) (n := 2) (by omega)
  obtain ⟨y1, y2⟩ := tdiv_bd2 (a := a + c) (n := 2) (by omega)
  obtain ⟨z1, z2⟩ := tdiv_bd2 (a := b + d) (n := 2) (by omega)
  obtain ⟨t1, t2⟩ := tdiv_bd2 (a := c - a) (n := 2) (by omega)
  have HX := hid hx
  clear hx
  go_enter Try.func172, Try.ntmps172
  go_wp2_with (first | go_in)
  refine bodyPost_ret (v := rg ((b - d).tdiv 2) ((a + c).tdiv 2) ((b + d).tdiv 2) ((c - a).tdiv 2)) (by first | (simp [results, Try.results172, go_sem, *]; done) | (simp (disch := (first | omega | (simp; done) | (simp; omega))) [results, Try.results172, go_sem, *]; done) | (simp only [results, Try.results172]; go_simp; done)) rfl ⟨rfl, ?_⟩
  repeat' (first | (with_reducible exact Below.refl _ _) | (with_reducible refine Below.alloc ?_ ?_ _) | (with_reducible refine Below.drew ?_) | (with_reducible refine Below.setCell ?_ ?_ _) | (with_reducible refine chain ?_ (by assumption) ?_) | omega | (simp; done) | (simp; omega))
end Go.Proofs.Ytgcligmpdlffoaa
namespace Go.Proofs.Ytgcligmpdlffoaa
open Go.RowKit RM
set_option linter.unusedVariables false
set_option linter.unusedSimpArgs false

set_option maxRecDepth 100000 in
set_option maxHeartbeats 1000000 in
theorem er (a b c d : Int) (w : World) :
    Calls Try.prog 70 #[rg a b c d, rg a b c d] w fun e w' => e = .returned (.bool true) ∧ Below w.heap.size w w' := by
  go_enter Try.func70, Try.ntmps70
  go_wp2_with (first | go_in)
  go_ret
  refine ⟨rfl, ?_⟩
  repeat' (first | (with_reducible exact Below.refl _ _) | (with_reducible refine Below.alloc ?_ ?_ _) | (with_reducible refine Below.drew ?_) | (with_reducible refine Below.setCell ?_ ?_ _) | (with_reducible refine chain ?_ (by assumption) ?_) | omega | (simp; done) | (simp; omega))
end Go.Proofs.Ytgcligmpdlffoaa
namespace Go.Proofs.Ytgcligmpdlffoaa
open Go.RowKit RM
set_option linter.unusedVariables false
set_option linter.unusedSimpArgs false
attribute [local irreducible] World.setCell
/-- the value of a dyadic number; one and whether there is one -/
abbrev dy (a b c d e : Int) : Value := .agg #[.int .i64 a, .int .i64 b, .int .i64 c, .int .i64 d, .int .i64 e]
abbrev dt (a b c d e : Int) (ok : Bool) : Value := .tuple #[dy a b c d e, .bool ok]

theorem evt {a b c d : Int} (w : World) (h : ev2 a b c d = true) (hx : vr a b c d = true) :
    Calls Try.prog 169 #[rg a b c d] w fun ee w' => ee = .returned (.bool true) ∧ Below w.heap.size w w' := by
  unfold ev2 at h; simp only [Bool.and_eq_true] at h; exact ev_t a b c d w h.1 h.2 hx
theorem evf {a b c d : Int} (w : World) (h : ev2 a b c d = false) (hx : vr a b c d = true) :
    Calls Try.prog 169 #[rg a b c d] w fun ee w' => ee = .returned (.bool false) ∧ Below w.heap.size w w' := by
  cases k1 : ((a + c).tmod 2 == 0)
  · exact ev_1 a b c d w k1 hx
  · unfold ev2 at h; rw [k1, Bool.true_and] at h; exact ev_2 a b c d w k1 h hx

set_option maxRecDepth 100000 in
set_option maxHeartbeats 2000000 in
theorem ed (a b c d e : Int) (w : World) :
    Calls Try.prog 23 #[dy a b c d e, dy a b c d e] w fun ee w' => ee = .returned (.bool true) ∧ Below w.heap.size w w' := by
  go_enter Try.func23, Try.ntmps23
  go_wp2_with (first | (go_at_call 70; ((with_reducible refine (er _ _ _ _ _).mono ?_); rintro ee w1 ⟨rfl, hb1⟩; obtain ⟨hc1, hf1, _⟩ := bcell hb1; have hz1 := hb1.size; (try simp at hz1); (try have hx10 : w.heap.size < w1.heap.size := (by omega)); (try have hx11 : w.heap.size + 1 < w1.heap.size := (by omega)); (try have hx12 : w.heap.size + 1 + 1 < w1.heap.size := (by omega)); (try have hx13 : w.heap.size + 1 + 1 + 1 < w1.heap.size := (by omega)))) | go_in)
  go_ret
  refine ⟨rfl, ?_⟩
  repeat' (first | (with_reducible exact Below.refl _ _) | (with_reducible refine Below.alloc ?_ ?_ _) | (with_reducible refine Below.drew ?_) | (with_reducible refine Below.setCell ?_ ?_ _) | (with_reducible refine chain ?_ (by assumption) ?_) | omega | (simp; done) | (simp; omega))
end Go.Proofs.Ytgcligmpdlffoaa
namespace Go.Proofs.Ytgcligmpdlffoaa
open Go.RowKit RM
set_option linter.unusedVariables false
set_option linter.unusedSimpArgs false

set_option maxRecDepth 100000 in
set_option maxHeartbeats 2000000 in
theorem droot_i_t (a b c d : Int) (w : World) (hx : vr a b c d = true) (hr : ((b - d).tmod 2 == 0 && ((a + c).tmod 2 == 0 && ((b + d).tmod 2 == 0 && (c - a).tmod 2 == 0))) = true) (hv : vr ((b - d).tdiv 2) ((a + c).tdiv 2) ((b + d).tdiv 2) ((c - a).tdiv 2) = true) :
    Calls Try.prog 176 #[rg a b c d] w fun e w' => e = .returned (rt ((b - d).tdiv 2) ((a + c).tdiv 2) ((b + d).tdiv 2) ((c - a).tdiv 2) true) ∧ Below w.heap.size w w' := by
  obtain ⟨⟨a1, a2⟩, ⟨b1, b2⟩, ⟨c1, c2⟩, ⟨d1, d2⟩⟩ := vr_iff.1 hx
  have HX := hid hx
  clear hx
  have HR := hid hr
  clear hr
  have HV := hid hv
  clear hv
  go_enter Try.func176, Try.ntmps176
  go_wp2_with (first | (go_at_call 174; ((with_reducible refine (iv_t _ _ _ _ _ HX.out).mono ?_); rintro e w1 ⟨rfl, hb1⟩; obtain ⟨hc1, hf1, _⟩ := bcell hb1; have hz1 := hb1.size; (try simp at hz1); (try have hx10 : w.heap.size < w1.heap.size := (by omega)); (try have hx11 : w.heap.size + 1 < w1.heap.size := (by omega)); (try have hx12 : w.heap.size + 1 + 1 < w1.heap.size := (by omega)); (try have hx13 : w.heap.size + 1 + 1 + 1 < w1.heap.size := (by omega)))) | (go_at_call 191; ((with_reducible refine (de_t _ _ _ _ _ _ (by omega) (by omega) (by omega) (by omega) (by decide) (by omega) (by omega) HR.out HV.out).mono ?_); rintro e w2 ⟨rfl, hb2⟩; obtain ⟨hc2, hf2, _⟩ := bcell hb2; have hz2 := hb2.size; (try simp at hz2); (try have hx20 : w.heap.size < w2.heap.size := (by omega)); (try have hx21 : w.heap.size + 1 < w2.heap.size := (by omega)); (try have hx22 : w.heap.size + 1 + 1 < w2.heap.size := (by omega)); (try have hx23 : w.heap.size + 1 + 1 + 1 < w2.heap.size := (by omega)); have zc0 : w2.cell? ⟨w.heap.size + 1, 0, none⟩ = some (.int .i64 0) := (by rw [hc2 _ _ (by first | omega | (simp; done) | (simp; omega))]; go_simp); have zc1 : w2.cell? ⟨w.heap.size + 1, 1, none⟩ = some (.int .i64 0) := (by rw [hc2 _ _ (by first | omega | (simp; done) | (simp; omega))]; go_simp); have zc2 : w2.cell? ⟨w.heap.size + 1, 2, none⟩ = some (.int .i64 0) := (by rw [hc2 _ _ (by first | omega | (simp; done) | (simp; omega))]; go_simp); have zc3 : w2.cell? ⟨w.heap.size + 1, 3, none⟩ = some (.int .i64 0) := (by rw [hc2 _ _ (by first | omega | (simp; done) | (simp; omega))]; go_simp); have zf0 : w2.frozen? ⟨w.heap.size + 1, 0, none⟩ = false := (by rw [hf2 _ _ (by first | omega | (simp; done) | (simp; omega))]; go_simp); have zf1 : w2.frozen? ⟨w.heap.size + 1, 1, none⟩ = false := (by rw [hf2 _ _ (by first | omega | (simp; done) | (simp; omega))]; go_simp); have zf2 : w2.frozen? ⟨w.heap.size + 1, 2, none⟩ = false := (by rw [hf2 _ _ (by first | omega | (simp; done) | (simp; omega))]; go_simp); have zf3 : w2.frozen? ⟨w.heap.size + 1, 3, none⟩ = false := (by rw [hf2 _ _ (by first | omega | (simp; done) | (simp; omega))]; go_simp))) | go_in)
  refine bodyPost_ret (v := rt ((b - d).tdiv 2) ((a + c).tdiv 2) ((b + d).tdiv 2) ((c - a).tdiv 2) true) (by first | (simp [results, Try.results176, go_sem, *]; done) | (simp (disch := (first | omega | (simp; done) | (simp; omega))) [results, Try.results176, go_sem, *]; done) | (simp only [results, Try.results176]; go_simp; done)) rfl ⟨rfl, ?_⟩
  repeat' (first | (with_reducible exact Below.refl _ _) | (with_reducible refine Below.alloc ?_ ?_ _) | (with_reducible refine Below.drew ?_) | (with_reducible refine Below.setCell ?_ ?_ _) | (with_reducible refine chain ?_ (by assumption) ?_) | omega | (simp; done) | (simp; omega))

set_option maxRecDepth 100000 in
set_option maxHeartbeats 2000000 in
theorem droot_i_e (a b c d : Int) (w : World) (hx : vr a b c d = true) (hr : ((b - d).tmod 2 == 0 && ((a + c).tmod 2 == 0 && ((b + d).tmod 2 == 0 && (c - a).tmod 2 == 0))) = false) :
    Calls Try.prog 176 #[rg a b c d] w fun e w' => e = .returned (rt 0 0 0 0 false) ∧ Below w.heap.size w w' := by
  obtain ⟨⟨a1, a2⟩, ⟨b1, b2⟩, ⟨c1, c2⟩, ⟨d1, d2⟩⟩ := vr_iff.1 hx
  have HX := hid hx
  clear hx
  have HR := hid hr
  clear hr
  go_enter Try.func176, Try.ntmps176
  go_wp2_with (first | (go_at_call 174; ((with_reducible refine (iv_t _ _ _ _ _ HX.out).mono ?_); rintro e w1 ⟨rfl, hb1⟩; obtain ⟨hc1, hf1, _⟩ := bcell hb1; have hz1 := hb1.size; (try simp at hz1); (try have hx10 : w.heap.size < w1.heap.size := (by omega)); (try have hx11 : w.heap.size + 1 < w1.heap.size := (by omega)); (try have hx12 : w.heap.size + 1 + 1 < w1.heap.size := (by omega)); (try have hx13 : w.heap.size + 1 + 1 + 1 < w1.heap.size := (by omega)))) | (go_at_call 191; ((with_reducible refine (de_r _ _ _ _ _ _ (by omega) (by omega) (by omega) (by omega) (by decide) (by omega) (by omega) HR.out).mono ?_); rintro e w2 ⟨rfl, hb2⟩; obtain ⟨hc2, hf2, _⟩ := bcell hb2; have hz2 := hb2.size; (try simp at hz2); (try have hx20 : w.heap.size < w2.heap.size := (by omega)); (try have hx21 : w.heap.size + 1 < w2.heap.size := (by omega)); (try have hx22 : w.heap.size + 1 + 1 < w2.heap.size := (by omega)); (try have hx23 : w.heap.size + 1 + 1 + 1 < w2.heap.size := (by omega)); have zc0 : w2.cell? ⟨w.heap.size + 1, 0, none⟩ = some (.int .i64 0) := (by rw [hc2 _ _ (by first | omega | (simp; done) | (simp; omega))]; go_simp); have zc1 : w2.cell? ⟨w.heap.size + 1, 1, none⟩ = some (.int .i64 0) := (by rw [hc2 _ _ (by first | omega | (simp; done) | (simp; omega))]; go_simp); have zc2 : w2.cell? ⟨w.heap.size + 1, 2, none⟩ = some (.int .i64 0) := (by rw [hc2 _ _ (by first | omega | (simp; done) | (simp; omega))]; go_simp); have zc3 : w2.cell? ⟨w.heap.size + 1, 3, none⟩ = some (.int .i64 0) := (by rw [hc2 _ _ (by first | omega | (simp; done) | (simp; omega))]; go_simp); have zf0 : w2.frozen? ⟨w.heap.size + 1, 0, none⟩ = false := (by rw [hf2 _ _ (by first | omega | (simp; done) | (simp; omega))]; go_simp); have zf1 : w2.frozen? ⟨w.heap.size + 1, 1, none⟩ = false := (by rw [hf2 _ _ (by first | omega | (simp; done) | (simp; omega))]; go_simp); have zf2 : w2.frozen? ⟨w.heap.size + 1, 2, none⟩ = false := (by rw [hf2 _ _ (by first | omega | (simp; done) | (simp; omega))]; go_simp); have zf3 : w2.frozen? ⟨w.heap.size + 1, 3, none⟩ = false := (by rw [hf2 _ _ (by first | omega | (simp; done) | (simp; omega))]; go_simp))) | go_in)
  refine bodyPost_ret (v := rt 0 0 0 0 false) (by first | (simp [results, Try.results176, go_sem, *]; done) | (simp (disch := (first | omega | (simp; done) | (simp; omega))) [results, Try.results176, go_sem, *]; done) | (simp only [results, Try.results176]; go_simp; done)) rfl ⟨rfl, ?_⟩
  repeat' (first | (with_reducible exact Below.refl _ _) | (with_reducible refine Below.alloc ?_ ?_ _) | (with_reducible refine Below.drew ?_) | (with_reducible refine Below.setCell ?_ ?_ _) | (with_reducible refine chain ?_ (by assumption) ?_) | omega | (simp; done) | (simp; omega))

end Go.Proofs.Ytgcligmpdlffoaa
namespace Go.Proofs.Ytgcligmpdlffoaa
open Go.RowKit RM
set_option linter.unusedVariables false
set_option linter.unusedSimpArgs false
attribute [local irreducible] World.setCell

set_option maxRecDepth 100000 in
set_option maxHeartbeats 2000000 in
theorem g2_f (a b c d e : Int) (w : World) (hx : vr a b c d = false) :
    Calls Try.prog 130 #[dy a b c d e] w fun ee w' => ee = .returned (.bool false) ∧ Below w.heap.size w w' := by
  have HX := hid hx
  clear hx
  go_enter Try.func130, Try.ntmps130
  go_wp2_with (first | (go_at_call 168; ((with_reducible refine (lg_f _ _ _ _ _ HX.out).mono ?_); rintro ee w1 ⟨rfl, hb1⟩; obtain ⟨hc1, hf1, _⟩ := bcell hb1; have hz1 := hb1.size; (try simp at hz1); (try have hx10 : w.heap.size < w1.heap.size := (by omega)); (try have hx11 : w.heap.size + 1 < w1.heap.size := (by omega)); (try have hx12 : w.heap.size + 1 + 1 < w1.heap.size := (by omega)); (try have hx13 : w.heap.size + 1 + 1 + 1 < w1.heap.size := (by omega)))) | go_in)
  go_ret
  refine ⟨rfl, ?_⟩
  repeat' (first | (with_reducible exact Below.refl _ _) | (with_reducible refine Below.alloc ?_ ?_ _) | (with_reducible refine Below.drew ?_) | (with_reducible refine Below.setCell ?_ ?_ _) | (with_reducible refine chain ?_ (by assumption) ?_) | omega | (simp; done) | (simp; omega))

set_option maxRecDepth 100000 in
set_option maxHeartbeats 2000000 in
theorem g2_n (a b c d e : Int) (w : World) (hx : vr a b c d = true) (he : e < 0) :
    Calls Try.prog 130 #[dy a b c d e] w fun ee w' => ee = .returned (.bool false) ∧ Below w.heap.size w w' := by
  have he2 : ¬ (0 ≤ e) := by omega
  have HX := hid hx
  clear hx
  have HE := hid he
  clear he
  go_enter Try.func130, Try.ntmps130
  go_wp2_with (first | (go_at_call 168; ((with_reducible refine (lg_t _ _ _ _ _ HX.out).mono ?_); rintro ee w1 ⟨rfl, hb1⟩; obtain ⟨hc1, hf1, _⟩ := bcell hb1; have hz1 := hb1.size; (try simp at hz1); (try have hx10 : w.heap.size < w1.heap.size := (by omega)); (try have hx11 : w.heap.size + 1 < w1.heap.size := (by omega)); (try have hx12 : w.heap.size + 1 + 1 < w1.heap.size := (by omega)); (try have hx13 : w.heap.size + 1 + 1 + 1 < w1.heap.size := (by omega)))) | go_in)
  go_ret
  refine ⟨rfl, ?_⟩
  repeat' (first | (with_reducible exact Below.refl _ _) | (with_reducible refine Below.alloc ?_ ?_ _) | (with_reducible refine Below.drew ?_) | (with_reducible refine Below.setCell ?_ ?_ _) | (with_reducible refine chain ?_ (by assumption) ?_) | omega | (simp; done) | (simp; omega))

set_option maxRecDepth 100000 in
set_option maxHeartbeats 2000000 in
theorem g2_m (a b c d e : Int) (w : World) (hx : vr a b c d = true) (he : 60 < e) :
    Calls Try.prog 130 #[dy a b c d e] w fun ee w' => ee = .returned (.bool false) ∧ Below w.heap.size w w' := by
  have he2 : ¬ (e ≤ 60) := by omega
  have he3 : 0 ≤ e := by omega
  have HX := hid hx
  clear hx
  have HE := hid he
  clear he
  go_enter Try.func130, Try.ntmps130
  go_wp2_with (first | (go_at_call 168; ((with_reducible refine (lg_t _ _ _ _ _ HX.out).mono ?_); rintro ee w1 ⟨rfl, hb1⟩; obtain ⟨hc1, hf1, _⟩ := bcell hb1; have hz1 := hb1.size; (try simp at hz1); (try have hx10 : w.heap.size < w1.heap.size := (by omega)); (try have hx11 : w.heap.size + 1 < w1.heap.size := (by omega)); (try have hx12 : w.heap.size + 1 + 1 < w1.heap.size := (by omega)); (try have hx13 : w.heap.size + 1 + 1 + 1 < w1.heap.size := (by omega)))) | go_in)
  go_ret
  refine ⟨rfl, ?_⟩
  repeat' (first | (with_reducible exact Below.refl _ _) | (with_reducible refine Below.alloc ?_ ?_ _) | (with_reducible refine Below.drew ?_) | (with_reducible refine Below.setCell ?_ ?_ _) | (with_reducible refine chain ?_ (by assumption) ?_) | omega | (simp; done) | (simp; omega))

set_option maxRecDepth 100000 in
set_option maxHeartbeats 2000000 in
theorem g2_z (a b c d : Int) (w : World) (hx : vr a b c d = true) :
    Calls Try.prog 130 #[dy a b c d 0] w fun ee w' => ee = .returned (.bool true) ∧ Below w.heap.size w w' := by
  have HX := hid hx
  clear hx
  go_enter Try.func130, Try.ntmps130
  go_wp2_with (first | (go_at_call 168; ((with_reducible refine (lg_t _ _ _ _ _ HX.out).mono ?_); rintro ee w1 ⟨rfl, hb1⟩; obtain ⟨hc1, hf1, _⟩ := bcell hb1; have hz1 := hb1.size; (try simp at hz1); (try have hx10 : w.heap.size < w1.heap.size := (by omega)); (try have hx11 : w.heap.size + 1 < w1.heap.size := (by omega)); (try have hx12 : w.heap.size + 1 + 1 < w1.heap.size := (by omega)); (try have hx13 : w.heap.size + 1 + 1 + 1 < w1.heap.size := (by omega)))) | go_in)
  go_ret
  refine ⟨rfl, ?_⟩
  repeat' (first | (with_reducible exact Below.refl _ _) | (with_reducible refine Below.alloc ?_ ?_ _) | (with_reducible refine Below.drew ?_) | (with_reducible refine Below.setCell ?_ ?_ _) | (with_reducible refine chain ?_ (by assumption) ?_) | omega | (simp; done) | (simp; omega))

set_option maxRecDepth 100000 in
set_option maxHeartbeats 2000000 in
theorem g2_e (a b c d e : Int) (w : World) (hx : vr a b c d = true) (he : 1 ≤ e ∧ e ≤ 60) (hv : ev2 a b c d = true) :
    Calls Try.prog 130 #[dy a b c d e] w fun ee w' => ee = .returned (.bool false) ∧ Below w.heap.size w w' := by
  have he2 : e ≤ 60 := by omega
  have he3 : 0 ≤ e := by omega
  have he4 : ¬ (e = 0) := by omega
  have he5 : (e == 0) = false := by simpa using he4
  have HX := hid hx
  clear hx
  have HE := hid he
  clear he
  have HV := hid hv
  clear hv
  go_enter Try.func130, Try.ntmps130
  go_wp2_with (first | (go_at_call 168; ((with_reducible refine (lg_t _ _ _ _ _ HX.out).mono ?_); rintro ee w1 ⟨rfl, hb1⟩; obtain ⟨hc1, hf1, _⟩ := bcell hb1; have hz1 := hb1.size; (try simp at hz1); (try have hx10 : w.heap.size < w1.heap.size := (by omega)); (try have hx11 : w.heap.size + 1 < w1.heap.size := (by omega)); (try have hx12 : w.heap.size + 1 + 1 < w1.heap.size := (by omega)); (try have hx13 : w.heap.size + 1 + 1 + 1 < w1.heap.size := (by omega)))) | (go_at_call 169; ((with_reducible refine (evt _ HV.out HX.out).mono ?_); rintro ee w2 ⟨rfl, hb2⟩; obtain ⟨hc2, hf2, _⟩ := bcell hb2; have hz2 := hb2.size; (try simp at hz2); (try have hx20 : w.heap.size < w2.heap.size := (by omega)); (try have hx21 : w.heap.size + 1 < w2.heap.size := (by omega)); (try have hx22 : w.heap.size + 1 + 1 < w2.heap.size := (by omega)); (try have hx23 : w.heap.size + 1 + 1 + 1 < w2.heap.size := (by omega)))) | go_in)
  go_ret
  refine ⟨rfl, ?_⟩
  repeat' (first | (with_reducible exact Below.refl _ _) | (with_reducible refine Below.alloc ?_ ?_ _) | (with_reducible refine Below.drew ?_) | (with_reducible refine Below.setCell ?_ ?_ _) | (with_reducible refine chain ?_ (by assumption) ?_) | omega | (simp; done) | (simp; omega))

set_option maxRecDepth 100000 in
set_option maxHeartbeats 2000000 in
theorem g2_o (a b c d e : Int) (w : World) (hx : vr a b c d = true) (he : 1 ≤ e ∧ e ≤ 60) (hv : ev2 a b c d = false) :
    Calls Try.prog 130 #[dy a b c d e] w fun ee w' => ee = .returned (.bool true) ∧ Below w.heap.size w w' := by
  have he2 : e ≤ 60 := by omega
  have he3 : 0 ≤ e := by omega
  have he4 : ¬ (e = 0) := by omega
  have he5 : (e == 0) = false := by simpa using he4
  have HX := hid hx
  clear hx
  have HE := hid he
  clear he
  have HV := hid hv
  clear hv
  go_enter Try.func130, Try.ntmps130
  go_wp2_with (first | (go_at_call 168; ((with_reducible refine (lg_t _ _ _ _ _ HX.out).mono ?_); rintro ee w1 ⟨rfl, hb1⟩; obtain ⟨hc1, hf1, _⟩ := bcell hb1; have hz1 := hb1.size; (try simp at hz1); (try have hx10 : w.heap.size < w1.heap.size := (by omega)); (try have hx11 : w.heap.size + 1 < w1.heap.size := (by omega)); (try have hx12 : w.heap.size + 1 + 1 < w1.heap.size := (by omega)); (try have hx13 : w.heap.size + 1 + 1 + 1 < w1.heap.size := (by omega)))) | (go_at_call 169; ((with_reducible refine (evf _ HV.out HX.out).mono ?_); rintro ee w2 ⟨rfl, hb2⟩; obtain ⟨hc2, hf2, _⟩ := bcell hb2; have hz2 := hb2.size; (try simp at hz2); (try have hx20 : w.heap.size < w2.heap.size := (by omega)); (try have hx21 : w.heap.size + 1 < w2.heap.size := (by omega)); (try have hx22 : w.heap.size + 1 + 1 < w2.heap.size := (by omega)); (try have hx23 : w.heap.size + 1 + 1 + 1 < w2.heap.size := (by omega)))) | go_in)
  go_ret
  refine ⟨rfl, ?_⟩
  repeat' (first | (with_reducible exact Below.refl _ _) | (with_reducible refine Below.alloc ?_ ?_ _) | (with_reducible refine Below.drew ?_) | (with_reducible refine Below.setCell ?_ ?_ _) | (with_reducible refine chain ?_ (by assumption) ?_) | omega | (simp; done) | (simp; omega))

theorem g2_t {a b c d : Int} {e : Nat} (w : World) (h : vd a b c d e = true) :
    Calls Try.prog 130 #[dy a b c d e] w fun ee w' => ee = .returned (.bool true) ∧ Below w.heap.size w w' := by
  obtain ⟨h1, h2, h3⟩ := vd_iff.1 h
  by_cases h0 : e = 0
  · subst h0; exact g2_z a b c d w h1
  · exact g2_o a b c d e w h1 ⟨by omega, by omega⟩ (h3.resolve_left h0)
/-- valid or not, whatever the exponent -/
def vi (a b c d e : Int) : Bool := decide (0 ≤ e) && vd a b c d e.toNat
theorem vi_nat {a b c d : Int} {e : Nat} : vi a b c d e = vd a b c d e := by unfold vi; simp
theorem vi_cases {a b c d e : Int} : vi a b c d e = false ∨ ∃ n : Nat, e = n ∧ vd a b c d n = true := by
  cases h : vi a b c d e
  · exact Or.inl rfl
  · unfold vi at h; simp only [Bool.and_eq_true, decide_eq_true_eq] at h; exact Or.inr ⟨e.toNat, by omega, h.2⟩
theorem g2_no {a b c d e : Int} (w : World) (h : vi a b c d e = false) :
    Calls Try.prog 130 #[dy a b c d e] w fun ee w' => ee = .returned (.bool false) ∧ Below w.heap.size w w' := by
  cases hx : vr a b c d
  · exact g2_f a b c d e w hx
  · by_cases h0 : e < 0
    · exact g2_n a b c d e w hx h0
    · by_cases h1 : 60 < e
      · exact g2_m a b c d e w hx h1
      · obtain ⟨n, rfl⟩ : ∃ n : Nat, e = n := ⟨e.toNat, by omega⟩
        rw [vi_nat] at h
        have hn : ¬ (n = 0 ∨ ev2 a b c d = false) := fun hh => by rw [vd_iff.2 ⟨hx, by omega, hh⟩] at h; cases h
        exact g2_e a b c d n w hx ⟨by omega, by omega⟩ (by simp only [not_or] at hn; simpa using hn.2)
end Go.Proofs.Ytgcligmpdlffoaa
