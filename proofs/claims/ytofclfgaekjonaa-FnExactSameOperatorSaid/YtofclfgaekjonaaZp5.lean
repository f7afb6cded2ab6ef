/- OmegaId, ArrEq, DivEx, DRootS -/
import Derived.Test.YtofclfgaekjonaaZp1
import Derived.Deep.RegionWith
import Derived.ChangeKeysEq
import Derived.RegionTactic
import Derived.BigRegion
namespace Go.Proofs.Ytofclfgaekjonaa
open Go.RowKit RM
set_option linter.unusedVariables false
set_option linter.unusedSimpArgs false
theorem vr_turn_6 {a b c d : Int} (h : vr a b c d = true) : vr c d (-a) (-b) = true := by
  rw [vr_iff] at *; omega
theorem mc_6 (a b c d : Int) (w : World) (hx : vr a b c d = true) :
    Calls Try.prog 179 #[rg a b c d, rg 0 0 (-1) 0] w fun e w' => e = .returned (rg c d (-a) (-b)) ∧ Below w.heap.size w w' := by
  have h := mc a b c d 0 0 (-1) 0 w hx (by decide)
  have e0 : m0 a b c d 0 0 (-1) 0 = c := by simp [m0]
  have e1 : m1 a b c d 0 0 (-1) 0 = d := by simp [m1]
  have e2 : m2 a b c d 0 0 (-1) 0 = -a := by simp [m2]
  have e3 : m3 a b c d 0 0 (-1) 0 = -b := by simp [m3]
  rw [e0, e1, e2, e3] at h
  exact h

set_option maxRecDepth 100000 in
set_option maxHeartbeats 2000000 in
theorem omega_i_6 (a b c d k : Int) (w : World) (t1 : -7 ≤ k.tmod 8) (t2 : k.tmod 8 ≤ 7) (t3 : (k.tmod 8 + 8) % 8 = 6) (t4 : (k.tmod 8 + 8).tmod 8 = 6) (g1 : -1000 ≤ k) (g2 : k ≤ 1000) (hx : vr a b c d = true) :
    Calls Try.prog 137 #[rg a b c d, .int .i64 k] w fun e w' => e = .returned (rt c d (-a) (-b) true) ∧ Below w.heap.size w w' := by
  have HX := hid hx
  clear hx
  go_enter Try.func137, Try.ntmps137
  go_wp2_with (first | (go_at_call 172; ((with_reducible refine (iv_t _ _ _ _ _ HX.out).mono ?_); rintro e w1 ⟨rfl, hb1⟩; obtain ⟨hc1, hf1, _⟩ := bcell hb1; have hz1 := hb1.size; (try simp at hz1); (try have hx10 : w.heap.size < w1.heap.size := (by omega)); (try have hx11 : w.heap.size + 1 < w1.heap.size := (by omega)); (try have hx12 : w.heap.size + 1 + 1 < w1.heap.size := (by omega)); (try have hx13 : w.heap.size + 1 + 1 + 1 < w1.heap.size := (by omega)))))
  go_region_with (first
   | (go_at_call 180; ((with_reducible refine (co _ _ _ _ _).mono ?_); rintro e w3 ⟨rfl, hb3⟩; ((first | (have hq3 := bcell_drew hb3) | (have hq3 := bcell hb3))); obtain ⟨hc3, hf3, hz3⟩ := hq3; (try simp at hz3); (try have hx30 : w.heap.size < w3.heap.size := (by omega)); (try have hx31 : w.heap.size + 1 < w3.heap.size := (by omega)); (try have ho3 : w1.heap.size < w3.heap.size := (by omega))))
   | (go_at_call 179; ((with_reducible refine (mc_6 _ _ _ _ _ HX.out).mono ?_); rintro e w4 ⟨rfl, hb4⟩; ((first | (have hq4 := bcell_drew hb4) | (have hq4 := bcell hb4))); obtain ⟨hc4, hf4, hz4⟩ := hq4; (try simp at hz4); (try have hx40 : w.heap.size < w4.heap.size := (by omega)); (try have hx41 : w.heap.size + 1 < w4.heap.size := (by omega)); (try have ho4 : w1.heap.size < w4.heap.size := (by omega))))
   | (go_at_call 178; ((with_reducible refine (ro_t _ _ _ _ _ (vr_turn_6 HX.out)).mono ?_); rintro e w5 ⟨rfl, hb5⟩; ((first | (have hq5 := bcell_drew hb5) | (have hq5 := bcell hb5))); obtain ⟨hc5, hf5, hz5⟩ := hq5; (try simp at hz5); (try have hx50 : w.heap.size < w5.heap.size := (by omega)); (try have hx51 : w.heap.size + 1 < w5.heap.size := (by omega)); (try have ho5 : w1.heap.size < w5.heap.size := (by omega)))))
  all_goals (go_wp2; refine bodyPost_ret (v := rt c d (-a) (-b) true) (by simp [results, Try.results137, go_sem, *]) rfl ⟨rfl, ?_⟩)
  all_goals (repeat' (first | (with_reducible exact Below.refl _ _) | (with_reducible refine Below.alloc ?_ ?_ _) | (with_reducible refine Below.drew ?_) | (with_reducible refine Below.setCell ?_ ?_ _) | (with_reducible refine chain ?_ (by assumption) ?_) | omega | (simp; done) | (simp; omega)))
theorem vr_turn_7 {a b c d : Int} (h : vr a b c d = true) : vr b c d (-a) = true := by
  rw [vr_iff] at *; omega
theorem mc_7 (a b c d : Int) (w : World) (hx : vr a b c d = true) :
    Calls Try.prog 179 #[rg a b c d, rg 0 0 0 (-1)] w fun e w' => e = .returned (rg b c d (-a)) ∧ Below w.heap.size w w' := by
  have h := mc a b c d 0 0 0 (-1) w hx (by decide)
  have e0 : m0 a b c d 0 0 0 (-1) = b := by simp [m0]
  have e1 : m1 a b c d 0 0 0 (-1) = c := by simp [m1]
  have e2 : m2 a b c d 0 0 0 (-1) = d := by simp [m2]
  have e3 : m3 a b c d 0 0 0 (-1) = -a := by simp [m3]
  rw [e0, e1, e2, e3] at h
  exact h

set_option maxRecDepth 100000 in
set_option maxHeartbeats 2000000 in
theorem omega_i_7 (a b c d k : Int) (w : World) (t1 : -7 ≤ k.tmod 8) (t2 : k.tmod 8 ≤ 7) (t3 : (k.tmod 8 + 8) % 8 = 7) (t4 : (k.tmod 8 + 8).tmod 8 = 7) (g1 : -1000 ≤ k) (g2 : k ≤ 1000) (hx : vr a b c d = true) :
    Calls Try.prog 137 #[rg a b c d, .int .i64 k] w fun e w' => e = .returned (rt b c d (-a) true) ∧ Below w.heap.size w w' := by
  have HX := hid hx
  clear hx
  go_enter Try.func137, Try.ntmps137
  go_wp2_with (first | (go_at_call 172; ((with_reducible refine (iv_t _ _ _ _ _ HX.out).mono ?_); rintro e w1 ⟨rfl, hb1⟩; obtain ⟨hc1, hf1, _⟩ := bcell hb1; have hz1 := hb1.size; (try simp at hz1); (try have hx10 : w.heap.size < w1.heap.size := (by omega)); (try have hx11 : w.heap.size + 1 < w1.heap.size := (by omega)); (try have hx12 : w.heap.size + 1 + 1 < w1.heap.size := (by omega)); (try have hx13 : w.heap.size + 1 + 1 + 1 < w1.heap.size := (by omega)))))
  go_region_with (first
   | (go_at_call 180; ((with_reducible refine (co _ _ _ _ _).mono ?_); rintro e w3 ⟨rfl, hb3⟩; ((first | (have hq3 := bcell_drew hb3) | (have hq3 := bcell hb3))); obtain ⟨hc3, hf3, hz3⟩ := hq3; (try simp at hz3); (try have hx30 : w.heap.size < w3.heap.size := (by omega)); (try have hx31 : w.heap.size + 1 < w3.heap.size := (by omega)); (try have ho3 : w1.heap.size < w3.heap.size := (by omega))))
   | (go_at_call 179; ((with_reducible refine (mc_7 _ _ _ _ _ HX.out).mono ?_); rintro e w4 ⟨rfl, hb4⟩; ((first | (have hq4 := bcell_drew hb4) | (have hq4 := bcell hb4))); obtain ⟨hc4, hf4, hz4⟩ := hq4; (try simp at hz4); (try have hx40 : w.heap.size < w4.heap.size := (by omega)); (try have hx41 : w.heap.size + 1 < w4.heap.size := (by omega)); (try have ho4 : w1.heap.size < w4.heap.size := (by omega))))
   | (go_at_call 178; ((with_reducible refine (ro_t _ _ _ _ _ (vr_turn_7 HX.out)).mono ?_); rintro e w5 ⟨rfl, hb5⟩; ((first | (have hq5 := bcell_drew hb5) | (have hq5 := bcell hb5))); obtain ⟨hc5, hf5, hz5⟩ := hq5; (try simp at hz5); (try have hx50 : w.heap.size < w5.heap.size := (by omega)); (try have hx51 : w.heap.size + 1 < w5.heap.size := (by omega)); (try have ho5 : w1.heap.size < w5.heap.size := (by omega)))))
  all_goals (go_wp2; refine bodyPost_ret (v := rt b c d (-a) true) (by simp [results, Try.results137, go_sem, *]) rfl ⟨rfl, ?_⟩)
  all_goals (repeat' (first | (with_reducible exact Below.refl _ _) | (with_reducible refine Below.alloc ?_ ?_ _) | (with_reducible refine Below.drew ?_) | (with_reducible refine Below.setCell ?_ ?_ _) | (with_reducible refine chain ?_ (by assumption) ?_) | omega | (simp; done) | (simp; omega)))
end Go.Proofs.Ytofclfgaekjonaa
namespace Go.Proofs.Ytofclfgaekjonaa
open Go.RowKit RM
set_option linter.unusedSimpArgs false
theorem infoInt : ∃ i, Try.prog.info? 3 = some i := Option.isSome_iff_exists.1 (by kernel_rfl)
theorem cellsInt : Try.prog.cellsOf 3 = 1 := by kernel_rfl
theorem part_int (a b c d : Int) (w : World) : (part 3 #[.int .i64 a, .int .i64 b, .int .i64 c, .int .i64 d] 0).run Try.prog w = .ok (.int .i64 a) w ∧ (part 3 #[.int .i64 a, .int .i64 b, .int .i64 c, .int .i64 d] 1).run Try.prog w = .ok (.int .i64 b) w
    ∧ (part 3 #[.int .i64 a, .int .i64 b, .int .i64 c, .int .i64 d] 2).run Try.prog w = .ok (.int .i64 c) w ∧ (part 3 #[.int .i64 a, .int .i64 b, .int .i64 c, .int .i64 d] 3).run Try.prog w = .ok (.int .i64 d) w :=
  ⟨by kernel_rfl, by kernel_rfl, by kernel_rfl, by kernel_rfl⟩
theorem eq4 (k : Nat) (a b c d p q r s : Int) (w : World) : (Op.equalIn (k + 2) 195 (rg a b c d) (rg p q r s)).run Try.prog w = .ok (a == p && (b == q && (c == r && d == s))) w := by
  obtain ⟨i, hi⟩ := infoInt
  rw [run_equalIn_array w (k + 1) _ _ Try.underlying195 hi, cellsInt]
  obtain ⟨x0, x1, x2, x3⟩ := part_int a b c d w
  obtain ⟨y0, y1, y2, y3⟩ := part_int p q r s w
  have r4 : List.range 4 = [0, 1, 2, 3] := rfl
  have e0 := fun w => run_equalIn_int w k 3 .i64 .i64 a p Try.underlying3
  have e1 := fun w => run_equalIn_int w k 3 .i64 .i64 b q Try.underlying3
  have e2 := fun w => run_equalIn_int w k 3 .i64 .i64 c r Try.underlying3
  have e3 := fun w => run_equalIn_int w k 3 .i64 .i64 d s Try.underlying3
  cases h0 : (a == p) <;> cases h1 : (b == q) <;> cases h2 : (c == r) <;> cases h3 : (d == s) <;> (rw [h0] at e0; rw [h1] at e1; rw [h2] at e2; rw [h3] at e3; simp [r4, Op.eqItems, x0, x1, x2, x3, y0, y1, y2, y3, e0, e1, e2, e3])
theorem run_neq4 (a b c d p q r s : Int) (v : Bool) (w : World) (h : (a == p && (b == q && (c == r && d == s))) = v) : (binOp .neq 195 (rg a b c d) (rg p q r s)).run Try.prog w = .ok (.bool (!v)) w := by
  subst h
  simp only [binOp]
  simp [Op.equal, Op.maxDepth, eq4 9998 a b c d p q r s w]
end Go.Proofs.Ytofclfgaekjonaa
namespace Go.Proofs.Ytofclfgaekjonaa
open Go.RowKit RM
set_option linter.unusedVariables false
set_option linter.unusedSimpArgs false
theorem tdiv_bd2 {a n : Int} (ha : -2000000000 ≤ a ∧ a ≤ 2000000000) : -2000000000 ≤ a.tdiv n ∧ a.tdiv n ≤ 2000000000 := by
  have h := Int.natAbs_tdiv_le_natAbs a n
  omega

set_option maxRecDepth 100000 in
set_option maxHeartbeats 4000000 in
theorem de_t (a b c d n : Int) (w : World) (ha : -2000000000 ≤ a ∧ a ≤ 2000000000) (hb : -2000000000 ≤ b ∧ b ≤ 2000000000) (hc : -2000000000 ≤ c ∧ c ≤ 2000000000) (hd : -2000000000 ≤ d ∧ d ≤ 2000000000) (hn : n ≠ 0) (hn0 : -9000000000000000000 ≤ n) (hn1 : n ≤ 9000000000000000000) (hr : (a.tmod n == 0 && (b.tmod n == 0 && (c.tmod n == 0 && d.tmod n == 0))) = true) (hv : vr (a.tdiv n) (b.tdiv n) (c.tdiv n) (d.tdiv n) = true) :
    Calls Try.prog 199 #[rg a b c d, .int .i64 n] w fun e w' => e = .returned (rt (a.tdiv n) (b.tdiv n) (c.tdiv n) (d.tdiv n) true) ∧ Below w.heap.size w w' := by
  have he := fun w => run_neq4 (a.tmod n) (b.tmod n) (c.tmod n) (d.tmod n) 0 0 0 0 true w hr
  obtain ⟨ta1, ta2⟩ := tdiv_bd2 (n := n) ha
  obtain ⟨tb1, tb2⟩ := tdiv_bd2 (n := n) hb
  obtain ⟨tc1, tc2⟩ := tdiv_bd2 (n := n) hc
  obtain ⟨td1, td2⟩ := tdiv_bd2 (n := n) hd
  clear hr
  have HV := hid hv
  clear hv
  obtain ⟨a1, a2⟩ := ha
  obtain ⟨b1, b2⟩ := hb
  obtain ⟨c1, c2⟩ := hc
  obtain ⟨d1, d2⟩ := hd
  have h0 : (n == 0) = false := by simp [hn]
  have i0 := fun w => (ix a b c d w).1
  have i1 := fun w => (ix a b c d w).2.1
  have i2 := fun w => (ix a b c d w).2.2.1
  have i3 := fun w => (ix a b c d w).2.2.2
  go_enter Try.func199, Try.ntmps199
  go_wp2_with fail
  refine wp_loop_rounds 5 ?_
  rw [rounds_succ]; go_wp2_with fail
  go_region
  go_wp2_with fail
  rw [rounds_succ]; go_wp2_with fail
  go_region
  go_wp2_with fail
  rw [rounds_succ]; go_wp2_with fail
  go_region
  go_wp2_with fail
  rw [rounds_succ]; go_wp2_with fail
  go_region
  go_wp2_with fail
  rw [rounds_succ]; go_wp2_with (first | (go_at_call 178; ((with_reducible refine (ro_t _ _ _ _ _ HV.out).mono ?_); rintro e w1 ⟨rfl, hb1⟩; obtain ⟨hc1, hf1, _⟩ := bcell hb1; have hz1 := hb1.size; (try simp at hz1); (try have hx10 : w.heap.size < w1.heap.size := (by omega)); (try have hx11 : w.heap.size + 1 < w1.heap.size := (by omega)); (try have hx12 : w.heap.size + 1 + 1 < w1.heap.size := (by omega)); (try have hx13 : w.heap.size + 1 + 1 + 1 < w1.heap.size := (by omega)); have zc0 : w1.cell? ⟨w.heap.size + 1, 0, none⟩ = some (.int .i64 0) := (by rw [hc1 _ _ (by first | omega | (simp; done) | (simp; omega))]; go_simp); have zc1 : w1.cell? ⟨w.heap.size + 1, 1, none⟩ = some (.int .i64 0) := (by rw [hc1 _ _ (by first | omega | (simp; done) | (simp; omega))]; go_simp); have zc2 : w1.cell? ⟨w.heap.size + 1, 2, none⟩ = some (.int .i64 0) := (by rw [hc1 _ _ (by first | omega | (simp; done) | (simp; omega))]; go_simp); have zc3 : w1.cell? ⟨w.heap.size + 1, 3, none⟩ = some (.int .i64 0) := (by rw [hc1 _ _ (by first | omega | (simp; done) | (simp; omega))]; go_simp); have zf0 : w1.frozen? ⟨w.heap.size + 1, 0, none⟩ = false := (by rw [hf1 _ _ (by first | omega | (simp; done) | (simp; omega))]; go_simp); have zf1 : w1.frozen? ⟨w.heap.size + 1, 1, none⟩ = false := (by rw [hf1 _ _ (by first | omega | (simp; done) | (simp; omega))]; go_simp); have zf2 : w1.frozen? ⟨w.heap.size + 1, 2, none⟩ = false := (by rw [hf1 _ _ (by first | omega | (simp; done) | (simp; omega))]; go_simp); have zf3 : w1.frozen? ⟨w.heap.size + 1, 3, none⟩ = false := (by rw [hf1 _ _ (by first | omega | (simp; done) | (simp; omega))]; go_simp))) | go_in)
  refine bodyPost_ret (v := rt (a.tdiv n) (b.tdiv n) (c.tdiv n) (d.tdiv n) true) (by first | (simp [results, Try.results199, go_sem, *]; done) | (simp (disch := (first | omega | (simp; done) | (simp; omega))) [results, Try.results199, go_sem, *]; done)) rfl ⟨rfl, ?_⟩
  repeat' (first | (with_reducible exact Below.refl _ _) | (with_reducible refine Below.alloc ?_ ?_ _) | (with_reducible refine Below.drew ?_) | (with_reducible refine Below.setCell ?_ ?_ _) | (with_reducible refine chain ?_ (by assumption) ?_) | omega | (simp; done) | (simp; omega))

set_option maxRecDepth 100000 in
set_option maxHeartbeats 4000000 in
theorem de_r (a b c d n : Int) (w : World) (ha : -2000000000 ≤ a ∧ a ≤ 2000000000) (hb : -2000000000 ≤ b ∧ b ≤ 2000000000) (hc : -2000000000 ≤ c ∧ c ≤ 2000000000) (hd : -2000000000 ≤ d ∧ d ≤ 2000000000) (hn : n ≠ 0) (hn0 : -9000000000000000000 ≤ n) (hn1 : n ≤ 9000000000000000000) (hr : (a.tmod n == 0 && (b.tmod n == 0 && (c.tmod n == 0 && d.tmod n == 0))) = false) :
    Calls Try.prog 199 #[rg a b c d, .int .i64 n] w fun e w' => e = .returned (rt 0 0 0 0 false) ∧ Below w.heap.size w w' := by
  have he := fun w => run_neq4 (a.tmod n) (b.tmod n) (c.tmod n) (d.tmod n) 0 0 0 0 false w hr
  obtain ⟨ta1, ta2⟩ := tdiv_bd2 (n := n) ha
  obtain ⟨tb1, tb2⟩ := tdiv_bd2 (n := n) hb
  obtain ⟨tc1, tc2⟩ := tdiv_bd2 (n := n) hc
  obtain ⟨td1, td2⟩ := tdiv_bd2 (n := n) hd
  clear hr
  obtain ⟨a1, a2⟩ := ha
  obtain ⟨b1, b2⟩ := hb
  obtain ⟨c1, c2⟩ := hc
  obtain ⟨d1, d2⟩ := hd
  have h0 : (n == 0) = false := by simp [hn]
  have i0 := fun w => (ix a b c d w).1
  have i1 := fun w => (ix a b c d w).2.1
  have i2 := fun w => (ix a b c d w).2.2.1
  have i3 := fun w => (ix a b c d w).2.2.2
  go_enter Try.func199, Try.ntmps199
  go_wp2_with fail
  refine wp_loop_rounds 5 ?_
  rw [rounds_succ]; go_wp2_with fail
  go_region
  go_wp2_with fail
  rw [rounds_succ]; go_wp2_with fail
  go_region
  go_wp2_with fail
  rw [rounds_succ]; go_wp2_with fail
  go_region
  go_wp2_with fail
  rw [rounds_succ]; go_wp2_with fail
  go_region
  go_wp2_with fail
  rw [rounds_succ]; go_wp2_with (first | go_in)
  refine bodyPost_ret (v := rt 0 0 0 0 false) (by first | (simp [results, Try.results199, go_sem, *]; done) | (simp (disch := (first | omega | (simp; done) | (simp; omega))) [results, Try.results199, go_sem, *]; done)) rfl ⟨rfl, ?_⟩
  repeat' (first | (with_reducible exact Below.refl _ _) | (with_reducible refine Below.alloc ?_ ?_ _) | (with_reducible refine Below.drew ?_) | (with_reducible refine Below.setCell ?_ ?_ _) | (with_reducible refine chain ?_ (by assumption) ?_) | omega | (simp; done) | (simp; omega))
end Go.Proofs.Ytofclfgaekjonaa
namespace Go.Proofs.Ytofclfgaekjonaa
open Go.RowKit RM
set_option linter.unusedVariables false
set_option linter.unusedSimpArgs false

set_option maxRecDepth 100000 in
set_option maxHeartbeats 1000000 in
theorem ev_t (a b c d : Int) (w : World) (k1 : ((a + c).tmod 2 == 0) = true) (k2 : ((b + d).tmod 2 == 0) = true) (hx : vr a b c d = true) :
    Calls Try.prog 156 #[rg a b c d] w fun e w' => e = .returned (.bool true) ∧ Below w.heap.size w w' := by
  obtain ⟨⟨a1, a2⟩, ⟨b1, b2⟩, ⟨c1, c2⟩, ⟨d1, d2⟩⟩ := vr_iff.1 hx
  have HX := hid hx
  clear hx
  go_enter Try.func156, Try.ntmps156
  go_wp2_with (first | go_in)
  go_ret
  refine ⟨rfl, ?_⟩
  repeat' (first | (with_reducible exact Below.refl _ _) | (with_reducible refine Below.alloc ?_ ?_ _) | (with_reducible refine Below.drew ?_) | (with_reducible refine Below.setCell ?_ ?_ _) | (with_reducible refine chain ?_ (by assumption) ?_) | omega | (simp; done) | (simp; omega))

set_option maxRecDepth 100000 in
set_option maxHeartbeats 1000000 in
theorem ev_1 (a b c d : Int) (w : World) (k1 : ((a + c).tmod 2 == 0) = false) (hx : vr a b c d = true) :
    Calls Try.prog 156 #[rg a b c d] w fun e w' => e = .returned (.bool false) ∧ Below w.heap.size w w' := by
  obtain ⟨⟨a1, a2⟩, ⟨b1, b2⟩, ⟨c1, c2⟩, ⟨d1, d2⟩⟩ := vr_iff.1 hx
  have HX := hid hx
  clear hx
  go_enter Try.func156, Try.ntmps156
  go_wp2_with (first | go_in)
  go_ret
  refine ⟨rfl, ?_⟩
  repeat' (first | (with_reducible exact Below.refl _ _) | (with_reducible refine Below.alloc ?_ ?_ _) | (with_reducible refine Below.drew ?_) | (with_reducible refine Below.setCell ?_ ?_ _) | (with_reducible refine chain ?_ (by assumption) ?_) | omega | (simp; done) | (simp; omega))

set_option maxRecDepth 100000 in
set_option maxHeartbeats 1000000 in
theorem ev_2 (a b c d : Int) (w : World) (k1 : ((a + c).tmod 2 == 0) = true) (k2 : ((b + d).tmod 2 == 0) = false) (hx : vr a b c d = true) :
    Calls Try.prog 156 #[rg a b c d] w fun e w' => e = .returned (.bool false) ∧ Below w.heap.size w w' := by
  obtain ⟨⟨a1, a2⟩, ⟨b1, b2⟩, ⟨c1, c2⟩, ⟨d1, d2⟩⟩ := vr_iff.1 hx
  have HX := hid hx
  clear hx
  go_enter Try.func156, Try.ntmps156
  go_wp2_with (first | go_in)
  go_ret
  refine ⟨rfl, ?_⟩
  repeat' (first | (with_reducible exact Below.refl _ _) | (with_reducible refine Below.alloc ?_ ?_ _) | (with_reducible refine Below.drew ?_) | (with_reducible refine Below.setCell ?_ ?_ _) | (with_reducible refine chain ?_ (by assumption) ?_) | omega | (simp; done) | (simp; omega))

set_option maxRecDepth 100000 in
set_option maxHeartbeats 2000000 in
theorem hf (a b c d : Int) (w : World) (hx : vr a b c d = true) :
    Calls Try.prog 198 #[rg a b c d] w fun e w' => e = .returned (rg ((b - d).tdiv 2) ((a + c).tdiv 2) ((b + d).tdiv 2) ((c - a).tdiv 2)) ∧ Below w.heap.size w w' := by
  obtain ⟨⟨a1, a2⟩, ⟨b1, b2⟩, ⟨c1, c2⟩, ⟨d1, d2⟩⟩ := vr_iff.1 hx
  obtain ⟨x1, x2⟩ := tdiv_bd2 (a := b - d) (n := 2) (by omega)
  obtain ⟨y1, y2⟩ := tdiv_bd2 (a := a + c) (n := 2) (by omega)
  obtain ⟨z1, z2⟩ := tdiv_bd2 (a := b + d) (n := 2) (by omega)
  obtain ⟨t1, t2⟩ := tdiv_bd2 (a := c - a) (n := 2) (by omega)
  have HX := hid hx
  clear hx
  go_enter Try.func198, Try.ntmps198
  go_wp2_with (first | go_in)
  refine bodyPost_ret (v := rg ((b - d).tdiv 2) ((a + c).tdiv 2) ((b + d).tdiv 2) ((c - a).tdiv 2)) (by first | (simp [results, Try.results198, go_sem, *]; done) | (simp (disch := (first | omega | (simp; done) | (simp; omega))) [results, Try.results198, go_sem, *]; done) | (simp only [results, Try.results198]; go_simp; done)) rfl ⟨rfl, ?_⟩
  repeat' (first | (with_reducible exact Below.refl _ _) | (with_reducible refine Below.alloc ?_ ?_ _) | (with_reducible refine Below.drew ?_) | (with_reducible refine Below.setCell ?_ ?_ _) | (with_reducible refine chain ?_ (by assumption) ?_) | omega | (simp; done) | (simp; omega))
end Go.Proofs.Ytofclfgaekjonaa
