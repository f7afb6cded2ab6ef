/- Contracts of PhaseOf and its model. -/
import Derived.Test.YtefmglofnoinmaaRingS
import Derived.Test.YtefmglofnoinmaaDyB
import Derived.Test.YtefmglofnoinmaaTurnS
import Derived.Test.YtefmglofnoinmaaOmegaIa
import Derived.Test.YtefmglofnoinmaaOmegaIb
import Derived.Test.YtefmglofnoinmaaOmegaIc
import Derived.Test.YtefmglofnoinmaaOmegaId
import Derived.Deep.LoopGhost
import Derived.Test.YtefmglofnoinmaaHeldB
import Derived.Deep.RegionHeld3
import Derived.Deep.MidRow
import Derived.Deep.DeepCutAuto
import Derived.ChangeKeysEq
namespace Go.Proofs.Ytefmglofnoinmaa
open Go.RowKit RM
set_option linter.unusedVariables false
set_option linter.unusedSimpArgs false
attribute [local irreducible] World.setCell
/-- the powers of w -/
def pw : Nat → R4
  | 0 => ⟨1, 0, 0, 0⟩
  | 1 => ⟨0, 1, 0, 0⟩
  | 2 => ⟨0, 0, 1, 0⟩
  | 3 => ⟨0, 0, 0, 1⟩
  | 4 => ⟨-1, 0, 0, 0⟩
  | 5 => ⟨0, -1, 0, 0⟩
  | 6 => ⟨0, 0, -1, 0⟩
  | _ => ⟨0, 0, 0, -1⟩
theorem lt8 {k : Nat} (h : k < 8) : k = 0 ∨ k = 1 ∨ k = 2 ∨ k = 3 ∨ k = 4 ∨ k = 5 ∨ k = 6 ∨ k = 7 := by omega
theorem om_p (k : Nat) (h : k < 8) (w : World) : Calls Try.prog 93 #[rg 1 0 0 0, .int .i64 (k : Int)] w fun ee w' => ee = .returned (rt (pw k).a (pw k).b (pw k).c (pw k).d true) ∧ Below w.heap.size w w' := by
  rcases lt8 h with rfl | rfl | rfl | rfl | rfl | rfl | rfl | rfl
  · exact omega_i_0 1 0 0 0 0 w (by decide) (by decide) (by decide) (by decide) (by decide) (by decide) (by decide)
  · exact omega_i_1 1 0 0 0 1 w (by decide) (by decide) (by decide) (by decide) (by decide) (by decide) (by decide)
  · exact omega_i_2 1 0 0 0 2 w (by decide) (by decide) (by decide) (by decide) (by decide) (by decide) (by decide)
  · exact omega_i_3 1 0 0 0 3 w (by decide) (by decide) (by decide) (by decide) (by decide) (by decide) (by decide)
  · exact omega_i_4 1 0 0 0 4 w (by decide) (by decide) (by decide) (by decide) (by decide) (by decide) (by decide)
  · exact omega_i_5 1 0 0 0 5 w (by decide) (by decide) (by decide) (by decide) (by decide) (by decide) (by decide)
  · exact omega_i_6 1 0 0 0 6 w (by decide) (by decide) (by decide) (by decide) (by decide) (by decide) (by decide)
  · exact omega_i_7 1 0 0 0 7 w (by decide) (by decide) (by decide) (by decide) (by decide) (by decide) (by decide)
theorem tn_p (k : Nat) (h : k < 8) (w : World) : Calls Try.prog 108 #[rg 1 0 0 0, .int .i64 (k : Int)] w fun ee w' => ee = .returned (rg (pw k).a (pw k).b (pw k).c (pw k).d) ∧ Below w.heap.size w w' := by
  rcases lt8 h with rfl | rfl | rfl | rfl | rfl | rfl | rfl | rfl
  · exact tn_0 1 0 0 0 0 w (by decide) (by decide) (by decide) (by decide) (by decide)
  · exact tn_1 1 0 0 0 1 w (by decide) (by decide) (by decide) (by decide) (by decide)
  · exact tn_2 1 0 0 0 2 w (by decide) (by decide) (by decide) (by decide) (by decide)
  · exact tn_3 1 0 0 0 3 w (by decide) (by decide) (by decide) (by decide) (by decide)
  · exact tn_4 1 0 0 0 4 w (by decide) (by decide) (by decide) (by decide) (by decide)
  · exact tn_5 1 0 0 0 5 w (by decide) (by decide) (by decide) (by decide) (by decide)
  · exact tn_6 1 0 0 0 6 w (by decide) (by decide) (by decide) (by decide) (by decide)
  · exact tn_7 1 0 0 0 7 w (by decide) (by decide) (by decide) (by decide) (by decide)

set_option maxRecDepth 100000 in
set_option maxHeartbeats 4000000 in
theorem l2pw (k : Nat) (w : World) (hk : k < 8) :
    Calls Try.prog 92 #[.int .i64 (k : Int)] w fun ee w' => ee = .returned (dy (pw k).a (pw k).b (pw k).c (pw k).d 0) ∧ Below w.heap.size w w' := by
  have HK := hid hk
  clear hk
  go_enter Try.func92, Try.ntmps92
  go_wp2_with (first | (go_at_call 108; ((with_reducible refine (tn_p _ HK.out _).mono ?_); rintro ee w1 ⟨rfl, hb1⟩; obtain ⟨hc1, hf1, _⟩ := bcell hb1; have hz1 := hb1.size; (try simp at hz1); (try have hx10 : w.heap.size < w1.heap.size := (by omega)); (try have hx11 : w.heap.size + 1 < w1.heap.size := (by omega)); (try have hx12 : w.heap.size + 1 + 1 < w1.heap.size := (by omega)); (try have hx13 : w.heap.size + 1 + 1 + 1 < w1.heap.size := (by omega)))) | go_in)
  refine bodyPost_ret (v := dy (pw k).a (pw k).b (pw k).c (pw k).d 0) (by first | (simp [results, Try.results92, go_sem, *]; done) | (simp (disch := (first | omega | (simp; done) | (simp; omega))) [results, Try.results92, go_sem, *]; done) | (simp only [results, Try.results92]; go_simp; done)) rfl ⟨rfl, ?_⟩
  repeat' (first | (with_reducible exact Below.refl _ _) | (with_reducible refine Below.alloc ?_ ?_ _) | (with_reducible refine Below.drew ?_) | (with_reducible refine Below.setCell ?_ ?_ _) | (with_reducible refine chain ?_ (by assumption) ?_) | omega | (simp; done) | (simp; omega))

theorem run_eql5 (a b c d e p q r s t : Int) (v : Bool) (w : World) (h : (a == p && (b == q && (c == r && (d == s && e == t)))) = v) : (binOp .eql 39 (dy a b c d e) (dy p q r s t)).run Try.prog w = .ok (.bool v) w := by
  subst h
  cases h0 : (a == p) <;> cases h1 : (b == q) <;> cases h2 : (c == r) <;> cases h3 : (d == s) <;> cases h4 : (e == t) <;> (simp only [beq_iff_eq, beq_eq_false_iff_ne] at h0 h1 h2 h3 h4; go_simp)
/-- the first power from 8 - n on that is the number -/
def phs (a b c d e : Int) : Nat → Int × Bool
  | 0 => (0, false)
  | n + 1 => if (a == (pw (7 - n)).a && (b == (pw (7 - n)).b && (c == (pw (7 - n)).c && (d == (pw (7 - n)).d && e == 0)))) then (((7 - n : Nat) : Int), true) else phs a b c d e n

set_option maxRecDepth 100000 in
set_option maxHeartbeats 8000000 in
theorem ph_i (a b c d e : Int) (u : Int) (ok : Bool) (w : World) (hr : phs a b c d e 8 = (u, ok)) :
    Calls Try.prog 55 #[dy a b c d e] w fun ee w' => ee = .returned (.tuple #[.int .i64 u, .bool ok]) ∧ Below w.heap.size w w' := by
  have HRR := hid hr
  clear hr
  go_enter Try.func55, Try.ntmps55
  go_wp2_with (fail)
  go_loopg [7] 8 (fun k s wr => ∃ j : Nat, j + k = 8 ∧ s = .int .i64 (j : Int) ∧ Hid (phs a b c d e k = (u, ok)) ∧ C5 wr w.heap.size a b c d e ∧ Below w.heap.size w wr)
  case atStart => exact ⟨0, rfl, rfl, HRR.out, ⟨by (first | rfl | assumption | (go_simp; done) | (simp (disch := (first | omega | (simp; done) | (simp; omega))) [go_sem, *]; done)), by (first | rfl | assumption | (go_simp; done) | (simp (disch := (first | omega | (simp; done) | (simp; omega))) [go_sem, *]; done)), by (first | rfl | assumption | (go_simp; done) | (simp (disch := (first | omega | (simp; done) | (simp; omega))) [go_sem, *]; done)), by (first | rfl | assumption | (go_simp; done) | (simp (disch := (first | omega | (simp; done) | (simp; omega))) [go_sem, *]; done)), by (first | rfl | assumption | (go_simp; done) | (simp (disch := (first | omega | (simp; done) | (simp; omega))) [go_sem, *]; done)), by (first | rfl | assumption | (go_simp; done) | (simp (disch := (first | omega | (simp; done) | (simp; omega))) [go_sem, *]; done)), by (first | rfl | assumption | (go_simp; done) | (simp (disch := (first | omega | (simp; done) | (simp; omega))) [go_sem, *]; done)), by (first | rfl | assumption | (go_simp; done) | (simp (disch := (first | omega | (simp; done) | (simp; omega))) [go_sem, *]; done)), by (first | rfl | assumption | (go_simp; done) | (simp (disch := (first | omega | (simp; done) | (simp; omega))) [go_sem, *]; done)), by (first | rfl | assumption | (go_simp; done) | (simp (disch := (first | omega | (simp; done) | (simp; omega))) [go_sem, *]; done))⟩, by (repeat' (first | (with_reducible exact Below.refl _ _) | (with_reducible refine Below.alloc ?_ ?_ _) | (with_reducible refine Below.drew ?_) | (with_reducible refine Below.setCell ?_ ?_ _) | (with_reducible refine chain ?_ (by assumption) ?_) | omega | (simp; done) | (simp; omega)))⟩
  case round =>
    obtain ⟨j, hj, rfl, HR, hX, hB⟩ := hrel
    have hlX := hX.lt
    have hX' := hX
    obtain ⟨q0, q1, q2, q3, q4, q5, q6, q7, q8, q9⟩ := hX
    cases gk with
    | zero =>
      obtain rfl : j = 8 := by omega
      go_wp2_with (fail)
      have HR2 := HR.out
      simp only [phs, Prod.mk.injEq] at HR2
      obtain ⟨rfl, rfl⟩ := HR2
      refine bodyPost_ret (v := .tuple #[.int .i64 0, .bool false]) (by first | (simp [results, Try.results55, go_sem, *]; done) | (simp (disch := (first | omega | (simp; done) | (simp; omega))) [results, Try.results55, go_sem, *]; done) | (simp only [results, Try.results55]; go_simp; done)) rfl ⟨rfl, ?_⟩
      repeat' (first | (with_reducible exact Below.refl _ _) | (with_reducible refine Below.alloc ?_ ?_ _) | (with_reducible refine Below.drew ?_) | (with_reducible refine Below.setCell ?_ ?_ _) | (with_reducible refine chain ?_ (by assumption) ?_) | omega | (simp; done) | (simp; omega))
    | succ m =>
      obtain rfl : j = 7 - m := by omega
      have hj8 : 7 - m < 8 := by omega
      have hj60 : ((7 - m : Nat) : Int) ≤ 60 := by omega
      have HJ := hid hj8
      have HJ2 := hid (show 7 - m + 1 + m = 8 by omega)
      clear hj
      generalize hJ : 7 - m = j at *
      have hjI : (j : Int) < 8 := by omega
      cases hq : (a == (pw j).a && (b == (pw j).b && (c == (pw j).c && (d == (pw j).d && e == 0))))
      · have hqe := fun w => run_eql5 a b c d e (pw j).a (pw j).b (pw j).c (pw j).d 0 _ w hq
        have HQ := hid hq
        clear hq
        have HJE := hid hJ
        clear hJ
        go_wp2_with (first | (go_at_call 93; ((with_reducible refine (om_p j HJ.out _).mono ?_); rintro ee w1 ⟨rfl, hb1⟩; obtain ⟨hc1, hf1, hz1⟩ := bcellB hb1; have ho1 : wr.heap.size ≤ w1.heap.size := hz1; have hx1 : w.heap.size < w1.heap.size := (by omega); have hX1 := hX'.mono hb1; obtain ⟨n0, n1, n2, n3, n4, n5, n6, n7, n8, n9⟩ := hX1; clear hc1 hf1)) | fail)
        all_goals (go_roundg m)
        all_goals (first | omega | skip)
        all_goals (
          have HR2 := HR.out
          rw [phs, HJE.out, if_neg (by rw [HQ.out]; decide)] at HR2
          refine ⟨j + 1, HJ2.out, by first | rfl | (simp; done) | go_num, HR2, ?_, ?_⟩)
        all_goals (first | exact hX'.mono hb1 | exact hX'.drew.mono hb1 | exact (hX'.mono hb1).al | exact (hX'.mono hb1).drew | exact (hX'.drew.mono hb1).al | (repeat' (first | (with_reducible assumption) | (with_reducible exact Below.refl _ _) | (with_reducible refine Below.alloc ?_ ?_ _) | (with_reducible refine Below.drew ?_) | (with_reducible refine both ?_ _ _ ?_ _) | (with_reducible refine Below.setCell ?_ ?_ _) | (with_reducible refine chain2 ?_ (by with_reducible assumption) ?_) | (with_reducible refine chain ?_ (by with_reducible assumption) ?_) | omega | (simp; done) | (simp; omega))))
      · have hqe := fun w => run_eql5 a b c d e (pw j).a (pw j).b (pw j).c (pw j).d 0 _ w hq
        have HQ := hid hq
        clear hq
        have HJE := hid hJ
        clear hJ
        go_wp2_with (first | (go_at_call 93; ((with_reducible refine (om_p j HJ.out _).mono ?_); rintro ee w1 ⟨rfl, hb1⟩; obtain ⟨hc1, hf1, hz1⟩ := bcellB hb1; have ho1 : wr.heap.size ≤ w1.heap.size := hz1; have hx1 : w.heap.size < w1.heap.size := (by omega); have hX1 := hX'.mono hb1; obtain ⟨n0, n1, n2, n3, n4, n5, n6, n7, n8, n9⟩ := hX1; clear hc1 hf1)) | fail)
        all_goals (
          have HR2 := HR.out
          rw [phs, HJE.out, if_pos HQ.out] at HR2
          simp only [Prod.mk.injEq] at HR2
          obtain ⟨rfl, rfl⟩ := HR2)
        all_goals (refine bodyPost_ret (v := .tuple #[.int .i64 (j : Int), .bool true]) (by first | (simp [results, Try.results55, go_sem, *]; done) | (simp (disch := (first | omega | (simp; done) | (simp; omega))) [results, Try.results55, go_sem, *]; done) | (simp only [results, Try.results55]; go_simp; done)) rfl ⟨rfl, ?_⟩)
        all_goals (repeat' (first | (with_reducible assumption) | (with_reducible exact Below.refl _ _) | (with_reducible refine Below.alloc ?_ ?_ _) | (with_reducible refine Below.drew ?_) | (with_reducible refine both ?_ _ _ ?_ _) | (with_reducible refine Below.setCell ?_ ?_ _) | (with_reducible refine chain2 ?_ (by with_reducible assumption) ?_) | (with_reducible refine chain ?_ (by with_reducible assumption) ?_) | omega | (simp; done) | (simp; omega)))

set_option maxRecDepth 100000 in
set_option maxHeartbeats 8000000 in
theorem ph_s (a b c d e : Int) (u : Int) (ok : Bool) (w : World) (hr : phs a b c d e 8 = (u, ok)) :
    Calls Try.prog 54 #[dy a b c d e] w fun ee w' => ee = .returned (.tuple #[.int .i64 u, .bool ok]) ∧ Below w.heap.size w w' := by
  have HRR := hid hr
  clear hr
  go_enter Try.func54, Try.ntmps54
  go_wp2_with (fail)
  go_loopg [4] 8 (fun k s wr => ∃ j : Nat, j + k = 8 ∧ s = .int .i64 (j : Int) ∧ Hid (phs a b c d e k = (u, ok)) ∧ C5 wr w.heap.size a b c d e ∧ Below w.heap.size w wr)
  case atStart => exact ⟨0, rfl, rfl, HRR.out, ⟨by (first | rfl | assumption | (go_simp; done) | (simp (disch := (first | omega | (simp; done) | (simp; omega))) [go_sem, *]; done)), by (first | rfl | assumption | (go_simp; done) | (simp (disch := (first | omega | (simp; done) | (simp; omega))) [go_sem, *]; done)), by (first | rfl | assumption | (go_simp; done) | (simp (disch := (first | omega | (simp; done) | (simp; omega))) [go_sem, *]; done)), by (first | rfl | assumption | (go_simp; done) | (simp (disch := (first | omega | (simp; done) | (simp; omega))) [go_sem, *]; done)), by (first | rfl | assumption | (go_simp; done) | (simp (disch := (first | omega | (simp; done) | (simp; omega))) [go_sem, *]; done)), by (first | rfl | assumption | (go_simp; done) | (simp (disch := (first | omega | (simp; done) | (simp; omega))) [go_sem, *]; done)), by (first | rfl | assumption | (go_simp; done) | (simp (disch := (first | omega | (simp; done) | (simp; omega))) [go_sem, *]; done)), by (first | rfl | assumption | (go_simp; done) | (simp (disch := (first | omega | (simp; done) | (simp; omega))) [go_sem, *]; done)), by (first | rfl | assumption | (go_simp; done) | (simp (disch := (first | omega | (simp; done) | (simp; omega))) [go_sem, *]; done)), by (first | rfl | assumption | (go_simp; done) | (simp (disch := (first | omega | (simp; done) | (simp; omega))) [go_sem, *]; done))⟩, by (repeat' (first | (with_reducible exact Below.refl _ _) | (with_reducible refine Below.alloc ?_ ?_ _) | (with_reducible refine Below.drew ?_) | (with_reducible refine Below.setCell ?_ ?_ _) | (with_reducible refine chain ?_ (by assumption) ?_) | omega | (simp; done) | (simp; omega)))⟩
  case round =>
    obtain ⟨j, hj, rfl, HR, hX, hB⟩ := hrel
    have hlX := hX.lt
    have hX' := hX
    obtain ⟨q0, q1, q2, q3, q4, q5, q6, q7, q8, q9⟩ := hX
    cases gk with
    | zero =>
      obtain rfl : j = 8 := by omega
      go_wp2_with (fail)
      have HR2 := HR.out
      simp only [phs, Prod.mk.injEq] at HR2
      obtain ⟨rfl, rfl⟩ := HR2
      refine bodyPost_ret (v := .tuple #[.int .i64 0, .bool false]) (by first | (simp [results, Try.results54, go_sem, *]; done) | (simp (disch := (first | omega | (simp; done) | (simp; omega))) [results, Try.results54, go_sem, *]; done) | (simp only [results, Try.results54]; go_simp; done)) rfl ⟨rfl, ?_⟩
      repeat' (first | (with_reducible exact Below.refl _ _) | (with_reducible refine Below.alloc ?_ ?_ _) | (with_reducible refine Below.drew ?_) | (with_reducible refine Below.setCell ?_ ?_ _) | (with_reducible refine chain ?_ (by assumption) ?_) | omega | (simp; done) | (simp; omega))
    | succ m =>
      obtain rfl : j = 7 - m := by omega
      have hj8 : 7 - m < 8 := by omega
      have hj60 : ((7 - m : Nat) : Int) ≤ 60 := by omega
      have HJ := hid hj8
      have HJ2 := hid (show 7 - m + 1 + m = 8 by omega)
      clear hj
      generalize hJ : 7 - m = j at *
      have hjI : (j : Int) < 8 := by omega
      cases hq : (a == (pw j).a && (b == (pw j).b && (c == (pw j).c && (d == (pw j).d && e == 0))))
      · have hqe := fun w => run_eql5 a b c d e (pw j).a (pw j).b (pw j).c (pw j).d 0 _ w hq
        have HQ := hid hq
        clear hq
        have HJE := hid hJ
        clear hJ
        go_wp2_with (fail)
        have x0 := q0
        have x1 := q1
        have x2 := q2
        have x3 := q3
        have x4 := q4
        have y0 : wr.drew.cell? ⟨w.heap.size, 0, none⟩ = some (.int .i64 a) := x0
        have y1 : wr.drew.cell? ⟨w.heap.size, 1, none⟩ = some (.int .i64 b) := x1
        have y2 : wr.drew.cell? ⟨w.heap.size, 2, none⟩ = some (.int .i64 c) := x2
        have y3 : wr.drew.cell? ⟨w.heap.size, 3, none⟩ = some (.int .i64 d) := x3
        have y4 : wr.drew.cell? ⟨w.heap.size, 4, none⟩ = some (.int .i64 e) := x4
        go_region_held3 (fun w' => w'.cell? ⟨w.heap.size, 0, none⟩ = some (.int .i64 a) ∧ w'.cell? ⟨w.heap.size, 1, none⟩ = some (.int .i64 b) ∧ w'.cell? ⟨w.heap.size, 2, none⟩ = some (.int .i64 c) ∧ w'.cell? ⟨w.heap.size, 3, none⟩ = some (.int .i64 d) ∧ w'.cell? ⟨w.heap.size, 4, none⟩ = some (.int .i64 e))
          (first | (with_reducible exact ⟨y0, y1, y2, y3, y4⟩) | (go_split_ands; with_reducible exact ⟨kc hb1 (by with_reducible assumption), kc hb1 (by with_reducible assumption), kc hb1 (by with_reducible assumption), kc hb1 (by with_reducible assumption), kc hb1 (by with_reducible assumption)⟩))
          (first
            | (go_at_call 92; ((with_reducible refine (l2pw j _ HJ.out).mono ?_); rintro ee w1 ⟨rfl, hb1⟩; obtain ⟨hc1, hf1, hz1⟩ := bcellB hb1; (try simp only [World.size_drew, World.size_alloc, World.size_setCell] at hz1); (first | (have ho1wr : wr.heap.size < w1.heap.size := (by omega)) | (have ho1wr : wr.heap.size ≤ w1.heap.size := (by omega)) | skip))))
        all_goals go_split_ands
        all_goals (go_wp2_with fail)
        all_goals (go_roundg m)
        all_goals (first | omega | skip)
        all_goals (
          have HR2 := HR.out
          rw [phs, HJE.out, if_neg (by rw [HQ.out]; decide)] at HR2
          refine ⟨j + 1, HJ2.out, by first | rfl | (simp; done) | go_num, HR2, ?_, ?_⟩)
        all_goals (first | exact hX'.mono hb1 | exact hX'.drew.mono hb1 | exact (hX'.mono hb1).al | exact (hX'.mono hb1).drew | exact (hX'.drew.mono hb1).al | (repeat' (first | (with_reducible assumption) | (with_reducible exact Below.refl _ _) | (with_reducible refine Below.alloc ?_ ?_ _) | (with_reducible refine Below.drew ?_) | (with_reducible refine both ?_ _ _ ?_ _) | (with_reducible refine Below.setCell ?_ ?_ _) | (with_reducible refine chain2 ?_ (by with_reducible assumption) ?_) | (with_reducible refine chain ?_ (by with_reducible assumption) ?_) | omega | (simp; done) | (simp; omega))))
      · have hqe := fun w => run_eql5 a b c d e (pw j).a (pw j).b (pw j).c (pw j).d 0 _ w hq
        have HQ := hid hq
        clear hq
        have HJE := hid hJ
        clear hJ
        go_wp2_with (fail)
        have x0 := q0
        have x1 := q1
        have x2 := q2
        have x3 := q3
        have x4 := q4
        have y0 : wr.drew.cell? ⟨w.heap.size, 0, none⟩ = some (.int .i64 a) := x0
        have y1 : wr.drew.cell? ⟨w.heap.size, 1, none⟩ = some (.int .i64 b) := x1
        have y2 : wr.drew.cell? ⟨w.heap.size, 2, none⟩ = some (.int .i64 c) := x2
        have y3 : wr.drew.cell? ⟨w.heap.size, 3, none⟩ = some (.int .i64 d) := x3
        have y4 : wr.drew.cell? ⟨w.heap.size, 4, none⟩ = some (.int .i64 e) := x4
        go_region_held3 (fun w' => w'.cell? ⟨w.heap.size, 0, none⟩ = some (.int .i64 a) ∧ w'.cell? ⟨w.heap.size, 1, none⟩ = some (.int .i64 b) ∧ w'.cell? ⟨w.heap.size, 2, none⟩ = some (.int .i64 c) ∧ w'.cell? ⟨w.heap.size, 3, none⟩ = some (.int .i64 d) ∧ w'.cell? ⟨w.heap.size, 4, none⟩ = some (.int .i64 e))
          (first | (with_reducible exact ⟨y0, y1, y2, y3, y4⟩) | (go_split_ands; with_reducible exact ⟨kc hb1 (by with_reducible assumption), kc hb1 (by with_reducible assumption), kc hb1 (by with_reducible assumption), kc hb1 (by with_reducible assumption), kc hb1 (by with_reducible assumption)⟩))
          (first
            | (go_at_call 92; ((with_reducible refine (l2pw j _ HJ.out).mono ?_); rintro ee w1 ⟨rfl, hb1⟩; obtain ⟨hc1, hf1, hz1⟩ := bcellB hb1; (try simp only [World.size_drew, World.size_alloc, World.size_setCell] at hz1); (first | (have ho1wr : wr.heap.size < w1.heap.size := (by omega)) | (have ho1wr : wr.heap.size ≤ w1.heap.size := (by omega)) | skip))))
        all_goals go_split_ands
        all_goals (go_wp2_with fail)
        all_goals (
          have HR2 := HR.out
          rw [phs, HJE.out, if_pos HQ.out] at HR2
          simp only [Prod.mk.injEq] at HR2
          obtain ⟨rfl, rfl⟩ := HR2)
        all_goals (refine bodyPost_ret (v := .tuple #[.int .i64 (j : Int), .bool true]) (by first | (simp [results, Try.results54, go_sem, *]; done) | (simp (disch := (first | omega | (simp; done) | (simp; omega))) [results, Try.results54, go_sem, *]; done) | (simp only [results, Try.results54]; go_simp; done)) rfl ⟨rfl, ?_⟩)
        all_goals (repeat' (first | (with_reducible assumption) | (with_reducible exact Below.refl _ _) | (with_reducible refine Below.alloc ?_ ?_ _) | (with_reducible refine Below.drew ?_) | (with_reducible refine both ?_ _ _ ?_ _) | (with_reducible refine Below.setCell ?_ ?_ _) | (with_reducible refine chain2 ?_ (by with_reducible assumption) ?_) | (with_reducible refine chain ?_ (by with_reducible assumption) ?_) | omega | (simp; done) | (simp; omega)))
end Go.Proofs.Ytefmglofnoinmaa
