/- Prod, ArrEq, DivEx, DRootS, LawHelp, DyA, DRootI -/
import Derived.Test.YtnjckeadcbfogaaZp0
import Derived.ChangeKeysEq
import Derived.RegionTactic
import Derived.BigRegion
import Derived.Deep.LoopGhost
namespace Go.Proofs.Ytnjckeadcbfogaa
open Go.RowKit RM
set_option linter.unusedVariables false
set_option linter.unusedSimpArgs false

set_option maxRecDepth 100000 in
set_option maxHeartbeats 1000000 in
theorem ro_t (a b c d : Int) (w : World) (h : vr a b c d = true) :
    Calls Try.prog 200 #[rg a b c d] w fun e w' => e = .returned (rt a b c d true) ∧ Below w.heap.size w w' := by
  have H := hid h
  clear h
  go_enter Try.func200, Try.ntmps200
  go_wp2_with (first | (go_at_call 199; ((with_reducible refine (iv_t _ _ _ _ _ H.out).mono ?_); rintro e w1 ⟨rfl, hb1⟩; obtain ⟨hc1, hf1, _⟩ := bcell hb1; have hz1 := hb1.size; try simp at hz1; try have hx10 : w.heap.size < w1.heap.size := by omega; try have hx11 : w.heap.size + 1 < w1.heap.size := by omega; try have hx12 : w.heap.size + 1 + 1 < w1.heap.size := by omega; try have hx13 : w.heap.size + 1 + 1 + 1 < w1.heap.size := by omega)) | go_in)
  refine bodyPost_ret (v := rt a b c d true) (by simp [results, Try.results200, go_sem, *]) rfl ⟨rfl, ?_⟩
  repeat' (first | (with_reducible exact Below.refl _ _) | (with_reducible refine Below.alloc ?_ ?_ _) | (with_reducible refine Below.drew ?_) | (with_reducible refine Below.setCell ?_ ?_ _) | (with_reducible refine chain ?_ (by assumption) ?_) | omega | (simp; done) | (simp; omega))

set_option maxRecDepth 100000 in
set_option maxHeartbeats 1000000 in
theorem ro_f (a b c d : Int) (w : World) (h : vr a b c d = false) :
    Calls Try.prog 200 #[rg a b c d] w fun e w' => e = .returned (rt 0 0 0 0 false) ∧ Below w.heap.size w w' := by
  have H := hid h
  clear h
  go_enter Try.func200, Try.ntmps200
  go_wp2_with (first | (go_at_call 199; ((with_reducible refine (iv_f _ _ _ _ _ H.out).mono ?_); rintro e w1 ⟨rfl, hb1⟩; obtain ⟨hc1, hf1, _⟩ := bcell hb1; have hz1 := hb1.size; try simp at hz1; try have hx10 : w.heap.size < w1.heap.size := by omega; try have hx11 : w.heap.size + 1 < w1.heap.size := by omega; try have hx12 : w.heap.size + 1 + 1 < w1.heap.size := by omega; try have hx13 : w.heap.size + 1 + 1 + 1 < w1.heap.size := by omega)) | go_in)
  refine bodyPost_ret (v := rt 0 0 0 0 false) (by simp [results, Try.results200, go_sem, *]) rfl ⟨rfl, ?_⟩
  repeat' (first | (with_reducible exact Below.refl _ _) | (with_reducible refine Below.alloc ?_ ?_ _) | (with_reducible refine Below.drew ?_) | (with_reducible refine Below.setCell ?_ ?_ _) | (with_reducible refine chain ?_ (by assumption) ?_) | omega | (simp; done) | (simp; omega))

set_option maxRecDepth 100000 in
set_option maxHeartbeats 1000000 in
theorem co (a b c d : Int) (w : World) :
    Calls Try.prog 202 #[rg a b c d] w fun e w' => e = .returned (rg a b c d) ∧ Below w.heap.size w w' := by
  go_enter Try.func202, Try.ntmps202
  go_wp2_with (first | go_in)
  refine bodyPost_ret (v := rg a b c d) (by simp [results, Try.results202, go_sem, *]) rfl ⟨rfl, ?_⟩
  repeat' (first | (with_reducible exact Below.refl _ _) | (with_reducible refine Below.alloc ?_ ?_ _) | (with_reducible refine Below.drew ?_) | (with_reducible refine Below.setCell ?_ ?_ _) | (with_reducible refine chain ?_ (by assumption) ?_) | omega | (simp; done) | (simp; omega))

/-- the coefficients of a product -/
abbrev m0 (a b c d p q r s : Int) : Int := a * p - b * s - c * r - d * q
abbrev m1 (a b c d p q r s : Int) : Int := a * q + b * p - c * s - d * r
abbrev m2 (a b c d p q r s : Int) : Int := a * r + b * q + c * p - d * s
abbrev m3 (a b c d p q r s : Int) : Int := a * s + b * r + c * q + d * p

set_option maxRecDepth 100000 in
set_option maxHeartbeats 4000000 in
theorem mc (a b c d p q r s : Int) (w : World) (hx : vr a b c d = true) (hy : vr p q r s = true) :
    Calls Try.prog 201 #[rg a b c d, rg p q r s] w fun e w' => e = .returned (rg (m0 a b c d p q r s) (m1 a b c d p q r s) (m2 a b c d p q r s) (m3 a b c d p q r s)) ∧ Below w.heap.size w w' := by
  obtain ⟨ha, hb, hc, hd⟩ := vr_iff.1 hx
  obtain ⟨hp, hq, hr, hs⟩ := vr_iff.1 hy
  obtain ⟨ap1, ap2⟩ := mul_bd ha hp
  obtain ⟨aq1, aq2⟩ := mul_bd ha hq
  obtain ⟨ar1, ar2⟩ := mul_bd ha hr
  obtain ⟨as1, as2⟩ := mul_bd ha hs
  obtain ⟨bp1, bp2⟩ := mul_bd hb hp
  obtain ⟨bq1, bq2⟩ := mul_bd hb hq
  obtain ⟨br1, br2⟩ := mul_bd hb hr
  obtain ⟨bs1, bs2⟩ := mul_bd hb hs
  obtain ⟨cp1, cp2⟩ := mul_bd hc hp
  obtain ⟨cq1, cq2⟩ := mul_bd hc hq
  obtain ⟨cr1, cr2⟩ := mul_bd hc hr
  obtain ⟨cs1, cs2⟩ := mul_bd hc hs
  obtain ⟨dp1, dp2⟩ := mul_bd hd hp
  obtain ⟨dq1, dq2⟩ := mul_bd hd hq
  obtain ⟨dr1, dr2⟩ := mul_bd hd hr
  obtain ⟨ds1, ds2⟩ := mul_bd hd hs
  clear hx hy ha hb hc hd hp hq hr hs
  have i0 := fun w => (ix a b c d w).1
  have i1 := fun w => (ix a b c d w).2.1
  have i2 := fun w => (ix a b c d w).2.2.1
  have i3 := fun w => (ix a b c d w).2.2.2
  have j0 := fun w => (ix p q r s w).1
  have j1 := fun w => (ix p q r s w).2.1
  have j2 := fun w => (ix p q r s w).2.2.1
  have j3 := fun w => (ix p q r s w).2.2.2
  go_enter Try.func201, Try.ntmps201
  go_wp2
  refine wp_loop_rounds 5 ?_
  rw [rounds_succ]; go_wp2
  refine wp_loop_rounds 5 ?_
  rw [rounds_succ]; go_wp2
  rw [rounds_succ]; go_wp2
  rw [rounds_succ]; go_wp2
  rw [rounds_succ]; go_wp2
  rw [rounds_succ]; go_wp2
  rw [rounds_succ]; go_wp2
  refine wp_loop_rounds 5 ?_
  rw [rounds_succ]; go_wp2
  rw [rounds_succ]; go_wp2
  rw [rounds_succ]; go_wp2
  rw [rounds_succ]; go_wp2
  rw [rounds_succ]; go_wp2
  rw [rounds_succ]; go_wp2
  refine wp_loop_rounds 5 ?_
  rw [rounds_succ]; go_wp2
  rw [rounds_succ]; go_wp2
  rw [rounds_succ]; go_wp2
  rw [rounds_succ]; go_wp2
  rw [rounds_succ]; go_wp2
  rw [rounds_succ]; go_wp2
  refine wp_loop_rounds 5 ?_
  rw [rounds_succ]; go_wp2
  rw [rounds_succ]; go_wp2
  rw [rounds_succ]; go_wp2
  rw [rounds_succ]; go_wp2
  rw [rounds_succ]; go_wp2
  rw [rounds_succ]; go_wp2
  refine bodyPost_ret (v := rg (m0 a b c d p q r s) (m1 a b c d p q r s) (m2 a b c d p q r s) (m3 a b c d p q r s)) (by simp [results, Try.results201, go_sem, *]) rfl ⟨rfl, ?_⟩
  repeat' (first | (with_reducible exact Below.refl _ _) | (with_reducible refine Below.alloc ?_ ?_ _) | (with_reducible refine Below.drew ?_) | (with_reducible refine Below.setCell ?_ ?_ _) | (with_reducible refine chain ?_ (by assumption) ?_) | omega | (simp; done) | (simp; omega))
end Go.Proofs.Ytnjckeadcbfogaa
namespace Go.Proofs.Ytnjckeadcbfogaa
open Go.RowKit RM
set_option linter.unusedSimpArgs false
theorem infoInt : ∃ i, Try.prog.info? 3 = some i := Option.isSome_iff_exists.1 (by kernel_rfl)
theorem cellsInt : Try.prog.cellsOf 3 = 1 := by kernel_rfl
theorem part_int (a b c d : Int) (w : World) : (part 3 #[.int .i64 a, .int .i64 b, .int .i64 c, .int .i64 d] 0).run Try.prog w = .ok (.int .i64 a) w ∧ (part 3 #[.int .i64 a, .int .i64 b, .int .i64 c, .int .i64 d] 1).run Try.prog w = .ok (.int .i64 b) w
    ∧ (part 3 #[.int .i64 a, .int .i64 b, .int .i64 c, .int .i64 d] 2).run Try.prog w = .ok (.int .i64 c) w ∧ (part 3 #[.int .i64 a, .int .i64 b, .int .i64 c, .int .i64 d] 3).run Try.prog w = .ok (.int .i64 d) w :=
  ⟨by kernel_rfl, by kernel_rfl, by kernel_rfl, by kernel_rfl⟩
theorem eq4 (k : Nat) (a b c d p q r s : Int) (w : World) : (Op.equalIn (k + 2) 206 (rg a b c d) (rg p q r s)).run Try.prog w = .ok (a == p && (b == q && (c == r && d == s))) w := by
  obtain ⟨i, hi⟩ := infoInt
  rw [run_equalIn_array w (k + 1) _ _ Try.underlying206 hi, cellsInt]
  obtain ⟨x0, x1, x2, x3⟩ := part_int a b c d w
  obtain ⟨y0, y1, y2, y3⟩ := part_int p q r s w
  have r4 : List.range 4 = [0, 1, 2, 3] := rfl
  have e0 := fun w => run_equalIn_int w k 3 .i64 .i64 a p Try.underlying3
  have e1 := fun w => run_equalIn_int w k 3 .i64 .i64 b q Try.underlying3
  have e2 := fun w => run_equalIn_int w k 3 .i64 .i64 c r Try.underlying3
  have e3 := fun w => run_equalIn_int w k 3 .i64 .i64 d s Try.underlying3
  cases h0 : (a == p) <;> cases h1 : (b == q) <;> cases h2 : (c == r) <;> cases h3 : (d == s) <;> (rw [h0] at e0; rw [h1] at e1; rw [h2] at e2; rw [h3] at e3; simp [r4, Op.eqItems, x0, x1, x2, x3, y0, y1, y2, y3, e0, e1, e2, e3])
theorem run_neq4 (a b c d p q r s : Int) (v : Bool) (w : World) (h : (a == p && (b == q && (c == r && d == s))) = v) : (binOp .neq 206 (rg a b c d) (rg p q r s)).run Try.prog w = .ok (.bool (!v)) w := by
  subst h
  simp only [binOp]
  simp [Op.equal, Op.maxDepth, eq4 9998 a b c d p q r s w]
end Go.Proofs.Ytnjckeadcbfogaa
namespace Go.Proofs.Ytnjckeadcbfogaa
open Go.RowKit RM
set_option linter.unusedVariables false
set_option linter.unusedSimpArgs false
theorem tdiv_bd2 {a n : Int} (ha : -2000000000 ≤ a ∧ a ≤ 2000000000) : -2000000000 ≤ a.tdiv n ∧ a.tdiv n ≤ 2000000000 := by
  have h := Int.natAbs_tdiv_le_natAbs a n
  omega

set_option maxRecDepth 100000 in
set_option maxHeartbeats 4000000 in
theorem de_t (a b c d n : Int) (w : World) (ha : -2000000000 ≤ a ∧ a ≤ 2000000000) (hb : -2000000000 ≤ b ∧ b ≤ 2000000000) (hc : -2000000000 ≤ c ∧ c ≤ 2000000000) (hd : -2000000000 ≤ d ∧ d ≤ 2000000000) (hn : n ≠ 0) (hn0 : -9000000000000000000 ≤ n) (hn1 : n ≤ 9000000000000000000) (hr : (a.tmod n == 0 && (b.tmod n == 0 && (c.tmod n == 0 && d.tmod n == 0))) = true) (hv : vr (a.tdiv n) (b.tdiv n) (c.tdiv n) (d.tdiv n) = true) :
    Calls Try.prog 226 #[rg a b c d, .int .i64 n] w fun e w' => e = .returned (rt (a.tdiv n) (b.tdiv n) (c.tdiv n) (d.tdiv n) true) ∧ Below w.heap.size w w' := by
  have he := fun w => run_neq4 (a.tmod n) (b.tmod n) (c.tmod n) (d.tmod n) 0 0 0 0 true w hr
  obtain ⟨ta1, ta2⟩ := tdiv_bd2 (n := n) ha
  obtain ⟨tb1, tb2⟩ := tdiv_bd2 (n := n) hb
  obtain ⟨tc1, tc2⟩ := tdiv_bd2 (n := n) hc
  obtain ⟨td1, td2⟩ := tdiv_bd2 (n := n) hd
  clear hr
  have HV := hid hv
  clear hv
  obtain ⟨a1, a2⟩ := ha
  obtain ⟨b1, b2⟩ := hb
  obtain ⟨c1, c2⟩ := hc
  obtain ⟨d1, d2⟩ := hd
  have h0 : (n == 0) = false := by simp [hn]
  have i0 := fun w => (ix a b c d w).1
  have i1 := fun w => (ix a b c d w).2.1
  have i2 := fun w => (ix a b c d w).2.2.1
  have i3 := fun w => (ix a b c d w).2.2.2
  go_enter Try.func226, Try.ntmps226
  go_wp2_with fail
  refine wp_loop_rounds 5 ?_
  rw [rounds_succ]; go_wp2_with fail
  go_region
  go_wp2_with fail
  rw [rounds_succ]; go_wp2_with fail
  go_region
  go_wp2_with fail
  rw [rounds_succ]; go_wp2_with fail
  go_region
  go_wp2_with fail
  rw [rounds_succ]; go_wp2_with fail
  go_region
  go_wp2_with fail
  rw [rounds_succ]; go_wp2_with (first | (go_at_call 200; ((with_reducible refine (ro_t _ _ _ _ _ HV.out).mono ?_); rintro e w1 ⟨rfl, hb1⟩; obtain ⟨hc1, hf1, _⟩ := bcell hb1; have hz1 := hb1.size; (try simp at hz1); (try have hx10 : w.heap.size < w1.heap.size := (by omega)); (try have hx11 : w.heap.size + 1 < w1.heap.size := (by omega)); (try have hx12 : w.heap.size + 1 + 1 < w1.heap.size := (by omega)); (try have hx13 : w.heap.size + 1 + 1 + 1 < w1.heap.size := (by omega)); have zc0 : w1.cell? ⟨w.heap.size + 1, 0, none⟩ = some (.int .i64 0) := (by rw [hc1 _ _ (by first | omega | (simp; done) | (simp; omega))]; go_simp); have zc1 : w1.cell? ⟨w.heap.size + 1, 1, none⟩ = some (.int .i64 0) := (by rw [hc1 _ _ (by first | omega | (simp; done) | (simp; omega))]; go_simp); have zc2 : w1.cell? ⟨w.heap.size + 1, 2, none⟩ = some (.int .i64 0) := (by rw [hc1 _ _ (by first | omega | (simp; done) | (simp; omega))]; go_simp); have zc3 : w1.cell? ⟨w.heap.size + 1, 3, none⟩ = some (.int .i64 0) := (by rw [hc1 _ _ (by first | omega | (simp; done) | (simp; omega))]; go_simp); have zf0 : w1.frozen? ⟨w.heap.size + 1, 0, none⟩ = false := (by rw [hf1 _ _ (by first | omega | (simp; done) | (simp; omega))]; go_simp); have zf1 : w1.frozen? ⟨w.heap.size + 1, 1, none⟩ = false := (by rw [hf1 _ _ (by first | omega | (simp; done) | (simp; omega))]; go_simp); have zf2 : w1.frozen? ⟨w.heap.size + 1, 2, none⟩ = false := (by rw [hf1 _ _ (by first | omega | (simp; done) | (simp; omega))]; go_simp); have zf3 : w1.frozen? ⟨w.heap.size + 1, 3, none⟩ = false := (by rw [hf1 _ _ (by first | omega | (simp; done) | (simp; omega))]; go_simp))) | go_in)
  refine bodyPost_ret (v := rt (a.tdiv n) (b.tdiv n) (c.tdiv n) (d.tdiv n) true) (by first | (simp [results, Try.results226, go_sem, *]; done) | (simp (disch := (first | omega | (simp; done) | (simp; omega))) [results, Try.results226, go_sem, *]; done)) rfl ⟨rfl, ?_⟩
  repeat' (first | (with_reducible exact Below.refl _ _) | (with_reducible refine Below.alloc ?_ ?_ _) | (with_reducible refine Below.drew ?_) | (with_reducible refine Below.setCell ?_ ?_ _) | (with_reducible refine chain ?_ (by assumption) ?_) | omega | (simp; done) | (simp; omega))

set_option maxRecDepth 100000 in
set_option maxHeartbeats 4000000 in
theorem de_r (a b c d n : Int) (w : World) (ha : -2000000000 ≤ a ∧ a ≤ 2000000000) (hb : -2000000000 ≤ b ∧ b ≤ 2000000000) (hc : -2000000000 ≤ c ∧ c ≤ 2000000000) (hd : -2000000000 ≤ d ∧ d ≤ 2000000000) (hn : n ≠ 0) (hn0 : -9000000000000000000 ≤ n) (hn1 : n ≤ 9000000000000000000) (hr : (a.tmod n == 0 && (b.tmod n == 0 && (c.tmod n == 0 && d.tmod n == 0))) = false) :
    Calls Try.prog 226 #[rg a b c d, .int .i64 n] w fun e w' => e = .returned (rt 0 0 0 0 false) ∧ Below w.heap.size w w' := by
  have he := fun w => run_neq4 (a.tmod n) (b.tmod n) (c.tmod n) (d.tmod n) 0 0 0 0 false w hr
  obtain ⟨ta1, ta2⟩ := tdiv_bd2 (n := n) ha
  obtain ⟨tb1, tb2⟩ := tdiv_bd2 (n := n) hb
  obtain ⟨tc1, tc2⟩ := tdiv_bd2 (n := n) hc
  obtain ⟨td1, td2⟩ := tdiv_bd2 (n := n) hd
  clear hr
  obtain ⟨a1, a2⟩ := ha
  obtain ⟨b1, b2⟩ := hb
  obtain ⟨c1, c2⟩ := hc
  obtain ⟨d1, d2⟩ := hd
  have h0 : (n == 0) = false := by simp [hn]
  have i0 := fun w => (ix a b c d w).1
  have i1 := fun w => (ix a b c d w).2.1
  have i2 := fun w => (ix a b c d w).2.2.1
  have i3 := fun w => (ix a b c d w).2.2.2
  go_enter Try.func226, Try.ntmps226
  go_wp2_with fail
  refine wp_loop_rounds 5 ?_
  rw [rounds_succ]; go_wp2_with fail
  go_region
  go_wp2_with fail
  rw [rounds_succ]; go_wp2_with fail
  go_region
  go_wp2_with fail
  rw [rounds_succ]; go_wp2_with fail
  go_region
  go_wp2_with fail
  rw [rounds_succ]; go_wp2_with fail
  go_region
  go_wp2_with fail
  rw [rounds_succ]; go_wp2_with (first | go_in)
  refine bodyPost_ret (v := rt 0 0 0 0 false) (by first | (simp [results, Try.results226, go_sem, *]; done) | (simp (disch := (first | omega | (simp; done) | (simp; omega))) [results, Try.results226, go_sem, *]; done)) rfl ⟨rfl, ?_⟩
  repeat' (first | (with_reducible exact Below.refl _ _) | (with_reducible refine Below.alloc ?_ ?_ _) | (with_reducible refine Below.drew ?_) | (with_reducible refine Below.setCell ?_ ?_ _) | (with_reducible refine chain ?_ (by assumption) ?_) | omega | (simp; done) | (simp; omega))
end Go.Proofs.Ytnjckeadcbfogaa
namespace Go.Proofs.Ytnjckeadcbfogaa
open Go.RowKit RM
set_option linter.unusedVariables false
set_option linter.unusedSimpArgs false

set_option maxRecDepth 100000 in
set_option maxHeartbeats 1000000 in
theorem ev_t (a b c d : Int) (w : World) (k1 : ((a + c).tmod 2 == 0) = true) (k2 : ((b + d).tmod 2 == 0) = true) (hx : vr a b c d = true) :
    Calls Try.prog 192 #[rg a b c d] w fun e w' => e = .returned (.bool true) ∧ Below w.heap.size w w' := by
  obtain ⟨⟨a1, a2⟩, ⟨b1, b2⟩, ⟨c1, c2⟩, ⟨d1, d2⟩⟩ := vr_iff.1 hx
  have HX := hid hx
  clear hx
  go_enter Try.func192, Try.ntmps192
  go_wp2_with (first | go_in)
  go_ret
  refine ⟨rfl, ?_⟩
  repeat' (first | (with_reducible exact Below.refl _ _) | (with_reducible refine Below.alloc ?_ ?_ _) | (with_reducible refine Below.drew ?_) | (with_reducible refine Below.setCell ?_ ?_ _) | (with_reducible refine chain ?_ (by assumption) ?_) | omega | (simp; done) | (simp; omega))

set_option maxRecDepth 100000 in
set_option maxHeartbeats 1000000 in
theorem ev_1 (a b c d : Int) (w : World) (k1 : ((a + c).tmod 2 == 0) = false) (hx : vr a b c d = true) :
    Calls Try.prog 192 #[rg a b c d] w fun e w' => e = .returned (.bool false) ∧ Below w.heap.size w w' := by
  obtain ⟨⟨a1, a2⟩, ⟨b1, b2⟩, ⟨c1, c2⟩, ⟨d1, d2⟩⟩ := vr_iff.1 hx
  have HX := hid hx
  clear hx
  go_enter Try.func192, Try.ntmps192
  go_wp2_with (first | go_in)
  go_ret
  refine ⟨rfl, ?_⟩
  repeat' (first | (with_reducible exact Below.refl _ _) | (with_reducible refine Below.alloc ?_ ?_ _) | (with_reducible refine Below.drew ?_) | (with_reducible refine Below.setCell ?_ ?_ _) | (with_reducible refine chain ?_ (by assumption) ?_) | omega | (simp; done) | (simp; omega))

set_option maxRecDepth 100000 in
set_option maxHeartbeats 1000000 in
theorem ev_2 (a b c d : Int) (w : World) (k1 : ((a + c).tmod 2 == 0) = true) (k2 : ((b + d).tmod 2 == 0) = false) (hx : vr a b c d = true) :
    Calls Try.prog 192 #[rg a b c d] w fun e w' => e = .returned (.bool false) ∧ Below w.heap.size w w' := by
  obtain ⟨⟨a1, a2⟩, ⟨b1, b2⟩, ⟨c1, c2⟩, ⟨d1, d2⟩⟩ := vr_iff.1 hx
  have HX := hid hx
  clear hx
  go_enter Try.func192, Try.ntmps192
  go_wp2_with (first | go_in)
  go_ret
  refine ⟨rfl, ?_⟩
  repeat' (first | (with_reducible exact Below.refl _ _) | (with_reducible refine Below.alloc ?_ ?_ _) | (with_reducible refine Below.drew ?_) | (with_reducible refine Below.setCell ?_ ?_ _) | (with_reducible refine chain ?_ (by assumption) ?_) | omega | (simp; done) | (simp; omega))

set_option maxRecDepth 100000 in
set_option maxHeartbeats 2000000 in
theorem hf (a b c d : Int) (w : World) (hx : vr a b c d = true) :
    Calls Try.prog 206 #[rg a b c d] w fun e w' => e = .returned (rg ((b - d).tdiv 2) ((a + c).tdiv 2) ((b + d).tdiv 2) ((c - a).tdiv 2)) ∧ Below w.heap.size w w' := by
  obtain ⟨⟨a1, a2⟩, ⟨b1, b2⟩, ⟨c1, c2⟩, ⟨d1, d2⟩⟩ := vr_iff.1 hx
  obtain ⟨x1, x2⟩ := tdiv_bd2 (a := b - d) (n := 2) (by omega)
  obtain ⟨y1, y2⟩ := tdiv_bd2 (a := a + c) (n := 2) (by omega)
  obtain ⟨z1, z2⟩ := tdiv_bd2 (a := b + d) (n := 2) (by omega)
  obtain ⟨t1, t2⟩ := tdiv_bd2 (a := c - a) (n := 2) (by omega)
  have HX := hid hx
  clear hx
  go_enter Try.func206, Try.ntmps206
  go_wp2_with (first | go_in)
  refine bodyPost_ret (v := rg ((b - d).tdiv 2) ((a + c).tdiv 2) ((b + d).tdiv 2) ((c - a).tdiv 2)) (by first | (simp [results, Try.results206, go_sem, *]; done) | (simp (disch := (first | omega | (simp; done) | (simp; omega))) [results, Try.results206, go_sem, *]; done) | (simp only [results, Try.results206]; go_simp; done)) rfl ⟨rfl, ?_⟩
  repeat' (first | (with_reducible exact Below.refl _ _) | (with_reducible refine Below.alloc ?_ ?_ _) | (with_reducible refine Below.drew ?_) | (with_reducible refine Below.setCell ?_ ?_ _) | (with_reducible refine chain ?_ (by assumption) ?_) | omega | (simp; done) | (simp; omega))
end Go.Proofs.Ytnjckeadcbfogaa
namespace Go.Proofs.Ytnjckeadcbfogaa
open Go.RowKit RM
set_option linter.unusedVariables false
set_option linter.unusedSimpArgs false

set_option maxRecDepth 100000 in
set_option maxHeartbeats 1000000 in
theorem er (a b c d : Int) (w : World) :
    Calls Try.prog 106 #[rg a b c d, rg a b c d] w fun e w' => e = .returned (.bool true) ∧ Below w.heap.size w w' := by
  go_enter Try.func106, Try.ntmps106
  go_wp2_with (first | go_in)
  go_ret
  refine ⟨rfl, ?_⟩
  repeat' (first | (with_reducible exact Below.refl _ _) | (with_reducible refine Below.alloc ?_ ?_ _) | (with_reducible refine Below.drew ?_) | (with_reducible refine Below.setCell ?_ ?_ _) | (with_reducible refine chain ?_ (by assumption) ?_) | omega | (simp; done) | (simp; omega))
end Go.Proofs.Ytnjckeadcbfogaa
namespace Go.Proofs.Ytnjckeadcbfogaa
open Go.RowKit RM
set_option linter.unusedVariables false
set_option linter.unusedSimpArgs false
attribute [local irreducible] World.setCell
/-- the value of a dyadic number; one and whether there is one -/
abbrev dy (a b c d e : Int) : Value := .agg #[.int .i64 a, .int .i64 b, .int .i64 c, .int .i64 d, .int .i64 e]
abbrev dt (a b c d e : Int) (ok : Bool) : Value := .tuple #[dy a b c d e, .bool ok]

theorem evt {a b c d : Int} (w : World) (h : ev2 a b c d = true) (hx : vr a b c d = true) :
    Calls Try.prog 192 #[rg a b c d] w fun ee w' => ee = .returned (.bool true) ∧ Below w.heap.size w w' := by
  unfold ev2 at h; simp only [Bool.and_eq_true] at h; exact ev_t a b c d w h.1 h.2 hx
theorem evf {a b c d : Int} (w : World) (h : ev2 a b c d = false) (hx : vr a b c d = true) :
    Calls Try.prog 192 #[rg a b c d] w fun ee w' => ee = .returned (.bool false) ∧ Below w.heap.size w w' := by
  cases k1 : ((a + c).tmod 2 == 0)
  · exact ev_1 a b c d w k1 hx
  · unfold ev2 at h; rw [k1, Bool.true_and] at h; exact ev_2 a b c d w k1 h hx

set_option maxRecDepth 100000 in
set_option maxHeartbeats 2000000 in
theorem ed (a b c d e : Int) (w : World) :
    Calls Try.prog 44 #[dy a b c d e, dy a b c d e] w fun ee w' => ee = .returned (.bool true) ∧ Below w.heap.size w w' := by
  go_enter Try.func44, Try.ntmps44
  go_wp2_with (first | (go_at_call 106; ((with_reducible refine (er _ _ _ _ _).mono ?_); rintro ee w1 ⟨rfl, hb1⟩; obtain ⟨hc1, hf1, _⟩ := bcell hb1; have hz1 := hb1.size; (try simp at hz1); (try have hx10 : w.heap.size < w1.heap.size := (by omega)); (try have hx11 : w.heap.size + 1 < w1.heap.size := (by omega)); (try have hx12 : w.heap.size + 1 + 1 < w1.heap.size := (by omega)); (try have hx13 : w.heap.size + 1 + 1 + 1 < w1.heap.size := (by omega)))) | go_in)
  go_ret
  refine ⟨rfl, ?_⟩
  repeat' (first | (with_reducible exact Below.refl _ _) | (with_reducible refine Below.alloc ?_ ?_ _) | (with_reducible refine Below.drew ?_) | (with_reducible refine Below.setCell ?_ ?_ _) | (with_reducible refine chain ?_ (by assumption) ?_) | omega | (simp; done) | (simp; omega))
end Go.Proofs.Ytnjckeadcbfogaa
namespace Go.Proofs.Ytnjckeadcbfogaa
open Go.RowKit RM
set_option linter.unusedVariables false
set_option linter.unusedSimpArgs false

set_option maxRecDepth 100000 in
set_option maxHeartbeats 2000000 in
theorem droot_i_t (a b c d : Int) (w : World) (hx : vr a b c d = true) (hr : ((b - d).tmod 2 == 0 && ((a + c).tmod 2 == 0 && ((b + d).tmod 2 == 0 && (c - a).tmod 2 == 0))) = true) (hv : vr ((b - d).tdiv 2) ((a + c).tdiv 2) ((b + d).tdiv 2) ((c - a).tdiv 2) = true) :
    Calls Try.prog 208 #[rg a b c d] w fun e w' => e = .returned (rt ((b - d).tdiv 2) ((a + c).tdiv 2) ((b + d).tdiv 2) ((c - a).tdiv 2) true) ∧ Below w.heap.size w w' := by
  obtain ⟨⟨a1, a2⟩, ⟨b1, b2⟩, ⟨c1, c2⟩, ⟨d1, d2⟩⟩ := vr_iff.1 hx
  have HX := hid hx
  clear hx
  have HR := hid hr
  clear hr
  have HV := hid hv
  clear hv
  go_enter Try.func208, Try.ntmps208
  go_wp2_with (first | (go_at_call 199; ((with_reducible refine (iv_t _ _ _ _ _ HX.out).mono ?_); rintro e w1 ⟨rfl, hb1⟩; obtain ⟨hc1, hf1, _⟩ := bcell hb1; have hz1 := hb1.size; (try simp at hz1); (try have hx10 : w.heap.size < w1.heap.size := (by omega)); (try have hx11 : w.heap.size + 1 < w1.heap.size := (by omega)); (try have hx12 : w.heap.size + 1 + 1 < w1.heap.size := (by omega)); (try have hx13 : w.heap.size + 1 + 1 + 1 < w1.heap.size := (by omega)))) | (go_at_call 226; ((with_reducible refine (de_t _ _ _ _ _ _ (by omega) (by omega) (by omega) (by omega) (by decide) (by omega) (by omega) HR.out HV.out).mono ?_); rintro e w2 ⟨rfl, hb2⟩; obtain ⟨hc2, hf2, _⟩ := bcell hb2; have hz2 := hb2.size; (try simp at hz2); (try have hx20 : w.heap.size < w2.heap.size := (by omega)); (try have hx21 : w.heap.size + 1 < w2.heap.size := (by omega)); (try have hx22 : w.heap.size + 1 + 1 < w2.heap.size := (by omega)); (try have hx23 : w.heap.size + 1 + 1 + 1 < w2.heap.size := (by omega)); have zc0 : w2.cell? ⟨w.heap.size + 1, 0, none⟩ = some (.int .i64 0) := (by rw [hc2 _ _ (by first | omega | (simp; done) | (simp; omega))]; go_simp); have zc1 : w2.cell? ⟨w.heap.size + 1, 1, none⟩ = some (.int .i64 0) := (by rw [hc2 _ _ (by first | omega | (simp; done) | (simp; omega))]; go_simp); have zc2 : w2.cell? ⟨w.heap.size + 1, 2, none⟩ = some (.int .i64 0) := (by rw [hc2 _ _ (by first | omega | (simp; done) | (simp; omega))]; go_simp); have zc3 : w2.cell? ⟨w.heap.size + 1, 3, none⟩ = some (.int .i64 0) := (by rw [hc2 _ _ (by first | omega | (simp; done) | (simp; omega))]; go_simp); have zf0 : w2.frozen? ⟨w.heap.size + 1, 0, none⟩ = false := (by rw [hf2 _ _ (by first | omega | (simp; done) | (simp; omega))]; go_simp); have zf1 : w2.frozen? ⟨w.heap.size + 1, 1, none⟩ = false := (by rw [hf2 _ _ (by first | omega | (simp; done) | (simp; omega))]; go_simp); have zf2 : w2.frozen? ⟨w.heap.size + 1, 2, none⟩ = false := (by rw [hf2 _ _ (by first | omega | (simp; done) | (simp; omega))]; go_simp); have zf3 : w2.frozen? ⟨w.heap.size + 1, 3, none⟩ = false := (by rw [hf2 _ _ (by first | omega | (simp; done) | (simp; omega))]; go_simp))) | go_in)
  refine bodyPost_ret (v := rt ((b - d).tdiv 2) ((a + c).tdiv 2) ((b + d).tdiv 2) ((c - a).tdiv 2) true) (by first | (simp [results, Try.results208, go_sem, *]; done) | (simp (disch := (first | omega | (simp; done) | (simp; omega))) [results, Try.results208, go_sem, *]; done) | (simp only [results, Try.results208]; go_simp; done)) rfl ⟨rfl, ?_⟩
  repeat' (first | (with_reducible exact Below.refl _ _) | (with_reducible refine Below.alloc ?_ ?_ _) | (with_reducible refine Below.drew ?_) | (with_reducible refine Below.setCell ?_ ?_ _) | (with_reducible refine chain ?_ (by assumption) ?_) | omega | (simp; done) | (simp; omega))

set_option maxRecDepth 100000 in
set_option maxHeartbeats 2000000 in
theorem droot_i_e (a b c d : Int) (w : World) (hx : vr a b c d = true) (hr : ((b - d).tmod 2 == 0 && ((a + c).tmod 2 == 0 && ((b + d).tmod 2 == 0 && (c - a).tmod 2 == 0))) = false) :
    Calls Try.prog 208 #[rg a b c d] w fun e w' => e = .returned (rt 0 0 0 0 false) ∧ Below w.heap.size w w' := by
  obtain ⟨⟨a1, a2⟩, ⟨b1, b2⟩, ⟨c1, c2⟩, ⟨d1, d2⟩⟩ := vr_iff.1 hx
  have HX := hid hx
  clear hx
  have HR := hid hr
  clear hr
  go_enter Try.func208, Try.ntmps208
  go_wp2_with (first | (go_at_call 199; ((with_reducible refine (iv_t _ _ _ _ _ HX.out).mono ?_); rintro e w1 ⟨rfl, hb1⟩; obtain ⟨hc1, hf1, _⟩ := bcell hb1; have hz1 := hb1.size; (try simp at hz1); (try have hx10 : w.heap.size < w1.heap.size := (by omega)); (try have hx11 : w.heap.size + 1 < w1.heap.size := (by omega)); (try have hx12 : w.heap.size + 1 + 1 < w1.heap.size := (by omega)); (try have hx13 : w.heap.size + 1 + 1 + 1 < w1.heap.size := (by omega)))) | (go_at_call 226; ((with_reducible refine (de_r _ _ _ _ _ _ (by omega) (by omega) (by omega) (by omega) (by decide) (by omega) (by omega) HR.out).mono ?_); rintro e w2 ⟨rfl, hb2⟩; obtain ⟨hc2, hf2, _⟩ := bcell hb2; have hz2 := hb2.size; (try simp at hz2); (try have hx20 : w.heap.size < w2.heap.size := (by omega)); (try have hx21 : w.heap.size + 1 < w2.heap.size := (by omega)); (try have hx22 : w.heap.size + 1 + 1 < w2.heap.size := (by omega)); (try have hx23 : w.heap.size + 1 + 1 + 1 < w2.heap.size := (by omega)); have zc0 : w2.cell? ⟨w.heap.size + 1, 0, none⟩ = some (.int .i64 0) := (by rw [hc2 _ _ (by first | omega | (simp; done) | (simp; omega))]; go_simp); have zc1 : w2.cell? ⟨w.heap.size + 1, 1, none⟩ = some (.int .i64 0) := (by rw [hc2 _ _ (by first | omega | (simp; done) | (simp; omega))]; go_simp); have zc2 : w2.cell? ⟨w.heap.size + 1, 2, none⟩ = some (.int .i64 0) := (by rw [hc2 _ _ (by first | omega | (simp; done) | (simp; omega))]; go_simp); have zc3 : w2.cell? ⟨w.heap.size + 1, 3, none⟩ = some (.int .i64 0) := (by rw [hc2 _ _ (by first | omega | (simp; done) | (simp; omega))]; go_simp); have zf0 : w2.frozen? ⟨w.heap.size + 1, 0, none⟩ = false := (by rw [hf2 _ _ (by first | omega | (simp; done) | (simp; omega))]; go_simp); have zf1 : w2.frozen? ⟨w.heap.size + 1, 1, none⟩ = false := (by rw [hf2 _ _ (by first | omega | (simp; done) | (simp; omega))]; go_simp); have zf2 : w2.frozen? ⟨w.heap.size + 1, 2, none⟩ = false := (by rw [hf2 _ _ (by first | omega | (simp; done) | (simp; omega))]; go_simp); have zf3 : w2.frozen? ⟨w.heap.size + 1, 3, none⟩ = false := (by rw [hf2 _ _ (by first | omega | (simp; done) | (simp; omega))]; go_simp))) | go_in)
  refine bodyPost_ret (v := rt 0 0 0 0 false) (by first | (simp [results, Try.results208, go_sem, *]; done) | (simp (disch := (first | omega | (simp; done) | (simp; omega))) [results, Try.results208, go_sem, *]; done) | (simp only [results, Try.results208]; go_simp; done)) rfl ⟨rfl, ?_⟩
  repeat' (first | (with_reducible exact Below.refl _ _) | (with_reducible refine Below.alloc ?_ ?_ _) | (with_reducible refine Below.drew ?_) | (with_reducible refine Below.setCell ?_ ?_ _) | (with_reducible refine chain ?_ (by assumption) ?_) | omega | (simp; done) | (simp; omega))

end Go.Proofs.Ytnjckeadcbfogaa
