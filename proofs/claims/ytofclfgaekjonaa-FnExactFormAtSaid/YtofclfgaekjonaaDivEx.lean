/- Contracts of divideExactly. -/
import Derived.Test.YtofclfgaekjonaaProd
import Derived.Test.YtofclfgaekjonaaArrEq
import Derived.RegionTactic
import Derived.BigRegion
namespace Go.Proofs.Ytofclfgaekjonaa
open Go.RowKit RM
set_option linter.unusedVariables false
set_option linter.unusedSimpArgs false
theorem tdiv_bd2 {a n : Int} (ha : -2000000000 ≤ a ∧ a ≤ 2000000000) : -2000000000 ≤ a.tdiv n ∧ a.tdiv n ≤ 2000000000 := by
  have h := Int.natAbs_tdiv_le_natAbs a n
  omega

set_option maxRecDepth 100000 in
set_option maxHeartbeats 4000000 in
theorem de_t (a b c d n : Int) (w : World) (ha : -2000000000 ≤ a ∧ a ≤ 2000000000) (hb : -2000000000 ≤ b ∧ b ≤ 2000000000) (hc : -2000000000 ≤ c ∧ c ≤ 2000000000) (hd : -2000000000 ≤ d ∧ d ≤ 2000000000) (hn : n ≠ 0) (hn0 : -9000000000000000000 ≤ n) (hn1 : n ≤ 9000000000000000000) (hr : (a.tmod n == 0 && (b.tmod n == 0 && (c.tmod n == 0 && d.tmod n == 0))) = true) (hv : vr (a.tdiv n) (b.tdiv n) (c.tdiv n) (d.tdiv n) = true) :
    Calls Try.prog 199 #[rg a b c d, .int .i64 n] w fun e w' => e = .returned (rt (a.tdiv n) (b.tdiv n) (c.tdiv n) (d.tdiv n) true) ∧ Below w.heap.size w w' := by
  have he := fun w => run_neq4 (a.tmod n) (b.tmod n) (c.tmod n) (d.tmod n) 0 0 0 0 true w hr
  obtain ⟨ta1, ta2⟩ := tdiv_bd2 (n := n) ha
  obtain ⟨tb1, tb2⟩ := tdiv_bd2 (n := n) hb
  obtain ⟨tc1, tc2⟩ := tdiv_bd2 (n := n) hc
  obtain ⟨td1, td2⟩ := tdiv_bd2 (n := n) hd
  clear hr
  have HV := hid hv
  clear hv
  obtain ⟨a1, a2⟩ := ha
  obtain ⟨b1, b2⟩ := hb
  obtain ⟨c1, c2⟩ := hc
  obtain ⟨d1, d2⟩ := hd
  have h0 : (n == 0) = false := by simp [hn]
  have i0 := fun w => (ix a b c d w).1
  have i1 := fun w => (ix a b c d w).2.1
  have i2 := fun w => (ix a b c d w).2.2.1
  have i3 := fun w => (ix a b c d w).2.2.2
  go_enter Try.func199, Try.ntmps199
  go_wp2_with fail
  refine wp_loop_rounds 5 ?_
  rw [rounds_succ]; go_wp2_with fail
  go_region
  go_wp2_with fail
  rw [rounds_succ]; go_wp2_with fail
  go_region
  go_wp2_with fail
  rw [rounds_succ]; go_wp2_with fail
  go_region
  go_wp2_with fail
  rw [rounds_succ]; go_wp2_with fail
  go_region
  go_wp2_with fail
  rw [rounds_succ]; go_wp2_with (first | (go_at_call 178; ((with_reducible refine (ro_t _ _ _ _ _ HV.out).mono ?_); rintro e w1 ⟨rfl, hb1⟩; obtain ⟨hc1, hf1, _⟩ := bcell hb1; have hz1 := hb1.size; (try simp at hz1); (try have hx10 : w.heap.size < w1.heap.size := (by omega)); (try have hx11 : w.heap.size + 1 < w1.heap.size := (by omega)); (try have hx12 : w.heap.size + 1 + 1 < w1.heap.size := (by omega)); (try have hx13 : w.heap.size + 1 + 1 + 1 < w1.heap.size := (by omega)); have zc0 : w1.cell? ⟨w.heap.size + 1, 0, none⟩ = some (.int .i64 0) := (by rw [hc1 _ _ (by first | omega | (simp; done) | (simp; omega))]; go_simp); have zc1 : w1.cell? ⟨w.heap.size + 1, 1, none⟩ = some (.int .i64 0) := (by rw [hc1 _ _ (by first | omega | (simp; done) | (simp; omega))]; go_simp); have zc2 : w1.cell? ⟨w.heap.size + 1, 2, none⟩ = some (.int .i64 0) := (by rw [hc1 _ _ (by first | omega | (simp; done) | (simp; omega))]; go_simp); have zc3 : w1.cell? ⟨w.heap.size + 1, 3, none⟩ = some (.int .i64 0) := (by rw [hc1 _ _ (by first | omega | (simp; done) | (simp; omega))]; go_simp); have zf0 : w1.frozen? ⟨w.heap.size + 1, 0, none⟩ = false := (by rw [hf1 _ _ (by first | omega | (simp; done) | (simp; omega))]; go_simp); have zf1 : w1.frozen? ⟨w.heap.size + 1, 1, none⟩ = false := (by rw [hf1 _ _ (by first | omega | (simp; done) | (simp; omega))]; go_simp); have zf2 : w1.frozen? ⟨w.heap.size + 1, 2, none⟩ = false := (by rw [hf1 _ _ (by first | omega | (simp; done) | (simp; omega))]; go_simp); have zf3 : w1.frozen? ⟨w.heap.size + 1, 3, none⟩ = false := (by rw [hf1 _ _ (by first | omega | (simp; done) | (simp; omega))]; go_simp))) | go_in)
  refine bodyPost_ret (v := rt (a.tdiv n) (b.tdiv n) (c.tdiv n) (d.tdiv n) true) (by first | (simp [results, Try.results199, go_sem, *]; done) | (simp (disch := (first | omega | (simp; done) | (simp; omega))) [results, Try.results199, go_sem, *]; done)) rfl ⟨rfl, ?_⟩
  repeat' (first | (with_reducible exact Below.refl _ _) | (with_reducible refine Below.alloc ?_ ?_ _) | (with_reducible refine Below.drew ?_) | (with_reducible refine Below.setCell ?_ ?_ _) | (with_reducible refine chain ?_ (by assumption) ?_) | omega | (simp; done) | (simp; omega))

set_option maxRecDepth 100000 in
set_option maxHeartbeats 4000000 in
theorem de_r (a b c d n : Int) (w : World) (ha : -2000000000 ≤ a ∧ a ≤ 2000000000) (hb : -2000000000 ≤ b ∧ b ≤ 2000000000) (hc : -2000000000 ≤ c ∧ c ≤ 2000000000) (hd : -2000000000 ≤ d ∧ d ≤ 2000000000) (hn : n ≠ 0) (hn0 : -9000000000000000000 ≤ n) (hn1 : n ≤ 9000000000000000000) (hr : (a.tmod n == 0 && (b.tmod n == 0 && (c.tmod n == 0 && d.tmod n == 0))) = false) :
    Calls Try.prog 199 #[rg a b c d, .int .i64 n] w fun e w' => e = .returned (rt 0 0 0 0 false) ∧ Below w.heap.size w w' := by
  have he := fun w => run_neq4 (a.tmod n) (b.tmod n) (c.tmod n) (d.tmod n) 0 0 0 0 false w hr
  obtain ⟨ta1, ta2⟩ := tdiv_bd2 (n := n) ha
  obtain ⟨tb1, tb2⟩ := tdiv_bd2 (n := n) hb
  obtain ⟨tc1, tc2⟩ := tdiv_bd2 (n := n) hc
  obtain ⟨td1, td2⟩ := tdiv_bd2 (n := n) hd
  clear hr
  obtain ⟨a1, a2⟩ := ha
  obtain ⟨b1, b2⟩ := hb
  obtain ⟨c1, c2⟩ := hc
  obtain ⟨d1, d2⟩ := hd
  have h0 : (n == 0) = false := by simp [hn]
  have i0 := fun w => (ix a b c d w).1
  have i1 := fun w => (ix a b c d w).2.1
  have i2 := fun w => (ix a b c d w).2.2.1
  have i3 := fun w => (ix a b c d w).2.2.2
  go_enter Try.func199, Try.ntmps199
  go_wp2_with fail
  refine wp_loop_rounds 5 ?_
  rw [rounds_succ]; go_wp2_with fail
  go_region
  go_wp2_with fail
  rw [rounds_succ]; go_wp2_with fail
  go_region
  go_wp2_with fail
  rw [rounds_succ]; go_wp2_with fail
  go_region
  go_wp2_with fail
  rw [rounds_succ]; go_wp2_with fail
  go_region
  go_wp2_with fail
  rw [rounds_succ]; go_wp2_with (first | go_in)
  refine bodyPost_ret (v := rt 0 0 0 0 false) (by first | (simp [results, Try.results199, go_sem, *]; done) | (simp (disch := (first | omega | (simp; done) | (simp; omega))) [results, Try.results199, go_sem, *]; done)) rfl ⟨rfl, ?_⟩
  repeat' (first | (with_reducible exact Below.refl _ _) | (with_reducible refine Below.alloc ?_ ?_ _) | (with_reducible refine Below.drew ?_) | (with_reducible refine Below.setCell ?_ ?_ _) | (with_reducible refine chain ?_ (by assumption) ?_) | omega | (simp; done) | (simp; omega))
end Go.Proofs.Ytofclfgaekjonaa
