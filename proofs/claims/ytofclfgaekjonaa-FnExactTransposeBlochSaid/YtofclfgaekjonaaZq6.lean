/- AddSf -/
import Derived.Test.YtofclfgaekjonaaZq4
import Derived.Test.YtofclfgaekjonaaZq1
import Derived.Deep.LoopGhost
import Derived.Deep.RegionHeld3
import Derived.Deep.MidRow
import Derived.Deep.DeepCutAuto
import Derived.Deep.RegionWith
namespace Go.Proofs.Ytofclfgaekjonaa
open Go.RowKit RM
set_option linter.unusedVariables false
set_option linter.unusedSimpArgs false
attribute [local irreducible] World.setCell

set_option maxRecDepth 100000 in
set_option maxHeartbeats 16000000 in
theorem ladd_f (a b c d : Int) (e : Nat) (p q r s : Int) (f : Nat) (g : Nat) (z z1 z2 : Bool) (A B C D P Q R S : Int) (L M N O : Int) (E : Nat) (w : World) (h0 : w.cell? ⟨g, 0, none⟩ = some (.bool z)) (f0 : w.frozen? ⟨g, 0, none⟩ = false) (he : e ≤ 60) (hf : f ≤ 60) (hx : vr a b c d = true) (hy : vr p q r s = true) (hr1 : raisS (f - e) a b c d z = (⟨A, B, C, D⟩, z1)) (hr2 : raisS (e - f) p q r s z1 = (⟨P, Q, R, S⟩, z2)) (hv : vr (A + P) (B + Q) (C + R) (D + S) = false) (hl : low (e + (f - e)) 0 0 0 0 = ⟨L, M, N, O, E⟩) :
    Calls Try.prog 125 #[.pointer (some ⟨g, 0, none⟩), dy a b c d (e : Int), dy p q r s (f : Int)] w fun ee w' => ee = .returned (dy L M N O E) ∧ Below w.heap.size (w.setCell ⟨g, 0, none⟩ (.bool true)) w' := by
  have hg := World.block_lt_of_cell? w _ h0
  have hg2 : g < w.heap.size := hg
  have hg3 : g < w.heap.size + 1 := by omega
  have hg4 : g < w.heap.size + 1 + 1 := by omega
  have hB0 := bad_0 (B := w.heap.size) h0
  have he1 : (e : Int) ≤ 60 := by omega
  have hf1 : (f : Int) ≤ 60 := by omega
  have HX := hid hx
  clear hx
  have HY := hid hy
  clear hy
  have HR1 := hid hr1
  clear hr1
  have HR2H := hid hr2
  clear hr2
  have HV := hid hv
  clear hv
  have HL := hid hl
  clear hl
  go_enter Try.func125, Try.ntmps125
  go_wp2_with (fail)
  go_loopg [7] (f - e) (fun k s7 wr => ∃ (a' b' c' d' : Int) (j : Nat) (z' : Bool), k ≤ f - e ∧ j + k = e + (f - e) ∧ Hid (vr a' b' c' d' = true ∧ raisS k a' b' c' d' z' = (⟨A, B, C, D⟩, z1)) ∧ C5 wr w.heap.size a' b' c' d' (j : Int) ∧ C5 wr (w.heap.size + 1) p q r s (f : Int) ∧ C5 wr (w.heap.size + 1 + 1) 0 0 0 0 0 ∧ wr.cell? ⟨g, 0, none⟩ = some (.bool z') ∧ wr.frozen? ⟨g, 0, none⟩ = false ∧ Below w.heap.size (w.setCell ⟨g, 0, none⟩ (.bool z')) wr)
  case atStart =>
    refine ⟨a, b, c, d, e, z, Nat.le_refl _, rfl, ⟨HX.out, HR1.out⟩, ⟨by (first | rfl | assumption | (go_simp; done) | (simp (disch := (first | omega | (simp; done) | (simp; omega))) [go_sem, *]; done)), by (first | rfl | assumption | (go_simp; done) | (simp (disch := (first | omega | (simp; done) | (simp; omega))) [go_sem, *]; done)), by (first | rfl | assumption | (go_simp; done) | (simp (disch := (first | omega | (simp; done) | (simp; omega))) [go_sem, *]; done)), by (first | rfl | assumption | (go_simp; done) | (simp (disch := (first | omega | (simp; done) | (simp; omega))) [go_sem, *]; done)), by (first | rfl | assumption | (go_simp; done) | (simp (disch := (first | omega | (simp; done) | (simp; omega))) [go_sem, *]; done)), by (first | rfl | assumption | (go_simp; done) | (simp (disch := (first | omega | (simp; done) | (simp; omega))) [go_sem, *]; done)), by (first | rfl | assumption | (go_simp; done) | (simp (disch := (first | omega | (simp; done) | (simp; omega))) [go_sem, *]; done)), by (first | rfl | assumption | (go_simp; done) | (simp (disch := (first | omega | (simp; done) | (simp; omega))) [go_sem, *]; done)), by (first | rfl | assumption | (go_simp; done) | (simp (disch := (first | omega | (simp; done) | (simp; omega))) [go_sem, *]; done)), by (first | rfl | assumption | (go_simp; done) | (simp (disch := (first | omega | (simp; done) | (simp; omega))) [go_sem, *]; done))⟩, ⟨by (first | rfl | assumption | (go_simp; done) | (simp (disch := (first | omega | (simp; done) | (simp; omega))) [go_sem, *]; done)), by (first | rfl | assumption | (go_simp; done) | (simp (disch := (first | omega | (simp; done) | (simp; omega))) [go_sem, *]; done)), by (first | rfl | assumption | (go_simp; done) | (simp (disch := (first | omega | (simp; done) | (simp; omega))) [go_sem, *]; done)), by (first | rfl | assumption | (go_simp; done) | (simp (disch := (first | omega | (simp; done) | (simp; omega))) [go_sem, *]; done)), by (first | rfl | assumption | (go_simp; done) | (simp (disch := (first | omega | (simp; done) | (simp; omega))) [go_sem, *]; done)), by (first | rfl | assumption | (go_simp; done) | (simp (disch := (first | omega | (simp; done) | (simp; omega))) [go_sem, *]; done)), by (first | rfl | assumption | (go_simp; done) | (simp (disch := (first | omega | (simp; done) | (simp; omega))) [go_sem, *]; done)), by (first | rfl | assumption | (go_simp; done) | (simp (disch := (first | omega | (simp; done) | (simp; omega))) [go_sem, *]; done)), by (first | rfl | assumption | (go_simp; done) | (simp (disch := (first | omega | (simp; done) | (simp; omega))) [go_sem, *]; done)), by (first | rfl | assumption | (go_simp; done) | (simp (disch := (first | omega | (simp; done) | (simp; omega))) [go_sem, *]; done))⟩, ⟨by (first | rfl | assumption | (go_simp; done) | (simp (disch := (first | omega | (simp; done) | (simp; omega))) [go_sem, *]; done)), by (first | rfl | assumption | (go_simp; done) | (simp (disch := (first | omega | (simp; done) | (simp; omega))) [go_sem, *]; done)), by (first | rfl | assumption | (go_simp; done) | (simp (disch := (first | omega | (simp; done) | (simp; omega))) [go_sem, *]; done)), by (first | rfl | assumption | (go_simp; done) | (simp (disch := (first | omega | (simp; done) | (simp; omega))) [go_sem, *]; done)), by (first | rfl | assumption | (go_simp; done) | (simp (disch := (first | omega | (simp; done) | (simp; omega))) [go_sem, *]; done)), by (first | rfl | assumption | (go_simp; done) | (simp (disch := (first | omega | (simp; done) | (simp; omega))) [go_sem, *]; done)), by (first | rfl | assumption | (go_simp; done) | (simp (disch := (first | omega | (simp; done) | (simp; omega))) [go_sem, *]; done)), by (first | rfl | assumption | (go_simp; done) | (simp (disch := (first | omega | (simp; done) | (simp; omega))) [go_sem, *]; done)), by (first | rfl | assumption | (go_simp; done) | (simp (disch := (first | omega | (simp; done) | (simp; omega))) [go_sem, *]; done)), by (first | rfl | assumption | (go_simp; done) | (simp (disch := (first | omega | (simp; done) | (simp; omega))) [go_sem, *]; done))⟩, by go_simp, by go_simp, ?_⟩
    repeat' (first | (with_reducible assumption) | (with_reducible exact Below.refl _ _) | (with_reducible refine Below.alloc ?_ ?_ _) | (with_reducible refine Below.drew ?_) | (with_reducible refine both ?_ _ _ ?_ _) | (with_reducible refine Below.setCell ?_ ?_ _) | (with_reducible refine chain2 ?_ (by with_reducible assumption) ?_) | (with_reducible refine chain ?_ (by with_reducible assumption) ?_) | omega | (simp; done) | (simp; omega))
  case round =>
    obtain ⟨a', b', c', d', j, z', hk, hjk, HR, hX, hY, hZ, hgc, hgf, hB⟩ := hrel
    have hgw := World.block_lt_of_cell? wr _ hgc
    have hlX := hX.lt
    have hlY := hY.lt
    have hlZ := hZ.lt
    obtain ⟨q0, q1, q2, q3, q4, q5, q6, q7, q8, q9⟩ := id hX
    obtain ⟨u0, u1, u2, u3, u4, u5, u6, u7, u8, u9⟩ := id hY
    cases gk with
    | zero =>
      obtain rfl : j = e + (f - e) := by omega
      have HR2 := HR.out.2
      simp only [raisS, Prod.mk.injEq, R4.mk.injEq] at HR2
      obtain ⟨⟨e0, e1, e2, e3⟩, e4⟩ := HR2
      replace e0 := e0.symm
      replace e1 := e1.symm
      replace e2 := e2.symm
      replace e3 := e3.symm
      replace e4 := e4.symm
      subst e0 e1 e2 e3 e4
      have HVA := hid HR.out.1
      have hnj : ¬ (e + (f - e) < f) := by omega
      go_wp2_with (fail)
      go_loopg [21] (e - f) (fun k s21 wr => ∃ (a' b' c' d' : Int) (j : Nat) (z' : Bool), k ≤ e - f ∧ j + k = f + (e - f) ∧ Hid (vr a' b' c' d' = true ∧ raisS k a' b' c' d' z' = (⟨P, Q, R, S⟩, z2)) ∧ C5 wr w.heap.size A B C D ((e + (f - e) : Nat) : Int) ∧ C5 wr (w.heap.size + 1) a' b' c' d' (j : Int) ∧ C5 wr (w.heap.size + 1 + 1) 0 0 0 0 0 ∧ wr.cell? ⟨g, 0, none⟩ = some (.bool z') ∧ wr.frozen? ⟨g, 0, none⟩ = false ∧ Below w.heap.size (w.setCell ⟨g, 0, none⟩ (.bool z')) wr)
      case atStart => exact ⟨p, q, r, s, f, z1, Nat.le_refl _, rfl, ⟨HY.out, HR2H.out⟩, hX, hY, hZ, hgc, hgf, hB⟩
      case round =>
        clear hX hY hZ hgc hgf hB hgw hlX hlY hlZ q0 q1 q2 q3 q4 q5 q6 q7 q8 q9 u0 u1 u2 u3 u4 u5 u6 u7 u8 u9 HR hk hjk hnj
        obtain ⟨a', b', c', d', j, z', hk, hjk, HR, hX, hY, hZ, hgc, hgf, hB⟩ := hrel
        have hgw := World.block_lt_of_cell? wr _ hgc
        have hlX := hX.lt
        have hlY := hY.lt
        have hlZ := hZ.lt
        obtain ⟨q0, q1, q2, q3, q4, q5, q6, q7, q8, q9⟩ := id hX
        obtain ⟨u0, u1, u2, u3, u4, u5, u6, u7, u8, u9⟩ := id hY
        cases gk with
        | zero =>
            obtain rfl : j = f + (e - f) := by omega
            have HR2 := HR.out.2
            simp only [raisS, Prod.mk.injEq, R4.mk.injEq] at HR2
            obtain ⟨⟨e0, e1, e2, e3⟩, e4⟩ := HR2
            replace e0 := e0.symm
            replace e1 := e1.symm
            replace e2 := e2.symm
            replace e3 := e3.symm
            replace e4 := e4.symm
            subst e0 e1 e2 e3 e4
            have HVP := hid HR.out.1
            have hnj : ¬ (f + (e - f) < e + (f - e)) := by omega
            have HN := hid (show e + (f - e) ≤ 60 by omega)
            have hgcd : wr.drew.cell? ⟨g, 0, none⟩ = some (.bool z2) := hgc
            have hgfd : wr.drew.frozen? ⟨g, 0, none⟩ = false := hgf
            have hdW : wr.drew.heap.size = wr.heap.size := rfl
            go_wp2_with (fail)
            have x0 := q0
            have x1 := q1
            have x2 := q2
            have x3 := q3
            have x4 := q4
            have x5 := u0
            have x6 := u1
            have x7 := u2
            have x8 := u3
            have x9 := u4
            have y0 : wr.drew.cell? ⟨w.heap.size, 0, none⟩ = some (.int .i64 A) := x0
            have y1 : wr.drew.cell? ⟨w.heap.size, 1, none⟩ = some (.int .i64 B) := x1
            have y2 : wr.drew.cell? ⟨w.heap.size, 2, none⟩ = some (.int .i64 C) := x2
            have y3 : wr.drew.cell? ⟨w.heap.size, 3, none⟩ = some (.int .i64 D) := x3
            have y4 : wr.drew.cell? ⟨w.heap.size, 4, none⟩ = some (.int .i64 ((e + (f - e) : Nat) : Int)) := x4
            have y5 : wr.drew.cell? ⟨(w.heap.size + 1), 0, none⟩ = some (.int .i64 P) := x5
            have y6 : wr.drew.cell? ⟨(w.heap.size + 1), 1, none⟩ = some (.int .i64 Q) := x6
            have y7 : wr.drew.cell? ⟨(w.heap.size + 1), 2, none⟩ = some (.int .i64 R) := x7
            have y8 : wr.drew.cell? ⟨(w.heap.size + 1), 3, none⟩ = some (.int .i64 S) := x8
            have y9 : wr.drew.cell? ⟨(w.heap.size + 1), 4, none⟩ = some (.int .i64 ((f + (e - f) : Nat) : Int)) := x9
            go_region_held3 (fun w' => w'.cell? ⟨w.heap.size, 0, none⟩ = some (.int .i64 A) ∧ w'.cell? ⟨w.heap.size, 1, none⟩ = some (.int .i64 B) ∧ w'.cell? ⟨w.heap.size, 2, none⟩ = some (.int .i64 C) ∧ w'.cell? ⟨w.heap.size, 3, none⟩ = some (.int .i64 D) ∧ w'.cell? ⟨w.heap.size, 4, none⟩ = some (.int .i64 ((e + (f - e) : Nat) : Int)) ∧ w'.cell? ⟨(w.heap.size + 1), 0, none⟩ = some (.int .i64 P) ∧ w'.cell? ⟨(w.heap.size + 1), 1, none⟩ = some (.int .i64 Q) ∧ w'.cell? ⟨(w.heap.size + 1), 2, none⟩ = some (.int .i64 R) ∧ w'.cell? ⟨(w.heap.size + 1), 3, none⟩ = some (.int .i64 S) ∧ w'.cell? ⟨(w.heap.size + 1), 4, none⟩ = some (.int .i64 ((f + (e - f) : Nat) : Int)))
              (first | (with_reducible exact ⟨y0, y1, y2, y3, y4, y5, y6, y7, y8, y9⟩) | (go_split_ands; with_reducible exact ⟨kc hb3 (by with_reducible assumption), kc hb3 (by with_reducible assumption), kc hb3 (by with_reducible assumption), kc hb3 (by with_reducible assumption), kc hb3 (by with_reducible assumption), kc hb3 (by with_reducible assumption), kc hb3 (by with_reducible assumption), kc hb3 (by with_reducible assumption), kc hb3 (by with_reducible assumption), kc hb3 (by with_reducible assumption)⟩) | (go_split_ands; with_reducible exact ⟨kcs hb4 (by omega) (by with_reducible assumption), kcs hb4 (by omega) (by with_reducible assumption), kcs hb4 (by omega) (by with_reducible assumption), kcs hb4 (by omega) (by with_reducible assumption), kcs hb4 (by omega) (by with_reducible assumption), kcs hb4 (by omega) (by with_reducible assumption), kcs hb4 (by omega) (by with_reducible assumption), kcs hb4 (by omega) (by with_reducible assumption), kcs hb4 (by omega) (by with_reducible assumption), kcs hb4 (by omega) (by with_reducible assumption)⟩) | (go_split_ands; with_reducible exact ⟨kc hb5 (by with_reducible assumption), kc hb5 (by with_reducible assumption), kc hb5 (by with_reducible assumption), kc hb5 (by with_reducible assumption), kc hb5 (by with_reducible assumption), kc hb5 (by with_reducible assumption), kc hb5 (by with_reducible assumption), kc hb5 (by with_reducible assumption), kc hb5 (by with_reducible assumption), kc hb5 (by with_reducible assumption)⟩) | (go_split_ands; with_reducible exact ⟨ks5 (by omega) (by with_reducible assumption), ks5 (by omega) (by with_reducible assumption), ks5 (by omega) (by with_reducible assumption), ks5 (by omega) (by with_reducible assumption), ks5 (by omega) (by with_reducible assumption), ks5 (by omega) (by with_reducible assumption), ks5 (by omega) (by with_reducible assumption), ks5 (by omega) (by with_reducible assumption), ks5 (by omega) (by with_reducible assumption), ks5 (by omega) (by with_reducible assumption)⟩))
              (first
                | (go_at_call 170; ((with_reducible refine (la A B C D P Q R S _ HVA.out HVP.out).mono ?_); rintro ee w3 ⟨rfl, hb3⟩; obtain ⟨hc3, hf3, hz3⟩ := bcellB hb3; (try simp only [World.size_drew, World.size_alloc, World.size_setCell] at hz3); (first | (have ho3wr : wr.heap.size < w3.heap.size := (by omega)) | (have ho3wr : wr.heap.size ≤ w3.heap.size := (by omega)) | skip)))
                | (go_at_call 167; ((with_reducible refine (ring_f g _ _ _ _ z2 _ (kc hb3 hgcd) (kf hb3 hgcd hgfd) HV.out).mono ?_); rintro ee w4 ⟨rfl, hb4⟩; obtain ⟨hc4, hf4, hz4⟩ := bcellB hb4; (try simp only [World.size_drew, World.size_alloc, World.size_setCell] at hz4); (first | (have ho4w3 : w3.heap.size < w4.heap.size := (by omega)) | (have ho4w3 : w3.heap.size ≤ w4.heap.size := (by omega)) | skip)))
                | (go_at_call 166; ((with_reducible refine (l2lowx _ _ _ _ _ (e + (f - e)) _ _ _ _ _ _ (Int.natCast_add e (f - e)).symm (by decide) HN.out HL.out).mono ?_); rintro ee w5 ⟨rfl, hb5⟩; obtain ⟨hc5, hf5, hz5⟩ := bcellB hb5; (try simp only [World.size_drew, World.size_alloc, World.size_setCell] at hz5); (first | (have ho5w4 : w4.heap.size < w5.heap.size := (by omega)) | (have ho5w4 : w4.heap.size ≤ w5.heap.size := (by omega)) | skip); (first | (have ho5w3 : w3.heap.size < w5.heap.size := (by omega)) | (have ho5w3 : w3.heap.size ≤ w5.heap.size := (by omega)) | skip); have hC5 := ((hZ.drew.mono hb3).monos (by omega) hb4).mono hb5; obtain ⟨z0, z1, z2, z3, z4, z5, z6, z7, z8, z9⟩ := hC5; have hzz := World.block_lt_of_cell? w5 _ z0)))
            all_goals (go_wp2_with fail; refine bodyPost_ret (v := dy L M N O E) (by first | (simp [results, Try.results125, go_sem, *]; done) | (simp (disch := (first | omega | (simp; done) | (simp; omega))) [results, Try.results125, go_sem, *]; done) | (simp only [results, Try.results125]; go_simp; done)) rfl ⟨rfl, ?_⟩)
            all_goals (have hBB := bad_step (v := .bool true) (chain hB.drew hb3 (by omega)) hg2 hb4 (by omega))
            all_goals (repeat' (first | (with_reducible assumption) | (with_reducible exact Below.refl _ _) | (with_reducible refine Below.alloc ?_ ?_ _) | (with_reducible refine Below.drew ?_) | (with_reducible refine both ?_ _ _ ?_ _) | (with_reducible refine Below.setCell ?_ ?_ _) | (with_reducible refine chain2 ?_ (by with_reducible assumption) ?_) | (with_reducible refine chain ?_ (by with_reducible assumption) ?_) | omega | (simp; done) | (simp; omega)))
        | succ m =>
          have hje : j < e + (f - e) := by omega
          have hj60 : (j : Int) ≤ 60 := by omega
          have hj1 : ((j + 1 : Nat) : Int) = (j : Int) + 1 := by omega
          have hwj : IntKind.i64.wrap ((j : Int) + 1) = (j : Int) + 1 := wr64 (by omega) (by omega)
          cases hv : vr (b' - d') (a' + c') (b' + d') (c' - a')
          · have HV := hid hv
            clear hv
            go_wp2_with (fail)
            go_region_with (first
              | (go_at_call 169; ((with_reducible refine (lrt _ _ _ _ _ HR.out.1).mono ?_); rintro ee w1 ⟨rfl, hb1⟩; obtain ⟨hc1, hf1, hz1⟩ := bcellB hb1; (try simp only [World.size_drew, World.size_alloc, World.size_setCell] at hz1); (first | (have ho1wr : wr.heap.size < w1.heap.size := (by omega)) | (have ho1wr : wr.heap.size ≤ w1.heap.size := (by omega)) | skip); have gc1 : w1.cell? ⟨g, 0, none⟩ = some (.bool z') := (by (first | exact kc hb1 hgc | exact kc hb1 (a := wr.drew) hgc)); have gf1 : w1.frozen? ⟨g, 0, none⟩ = false := (by (first | exact kf hb1 hgc hgf | exact kf hb1 (a := wr.drew) hgc hgf)); (first | (have hX1 := hY.mono hb1) | (have hX1 := hY.drew.mono hb1)); obtain ⟨n0, n1, n2, n3, n4, n5, n6, n7, n8, n9⟩ := id hX1))
              | (go_at_call 167; ((with_reducible refine (ring_f g _ _ _ _ z' _ gc1 gf1 HV.out).mono ?_); rintro ee w2 ⟨rfl, hb2⟩; obtain ⟨hc2, hf2, hz2⟩ := bcellB hb2; (try simp only [World.size_drew, World.size_alloc, World.size_setCell] at hz2); (first | (have ho2wr : wr.heap.size < w2.heap.size := (by omega)) | skip); (first | (have ho2w1 : w1.heap.size ≤ w2.heap.size := (by omega)) | skip); (first | (have hX2 := ((hY.mono hb1).monos (by omega) hb2)) | (have hX2 := ((hY.mono hb1).drew.monos (by omega) hb2)) | (have hX2 := ((hY.drew.mono hb1).monos (by omega) hb2)) | (have hX2 := ((hY.drew.mono hb1).drew.monos (by omega) hb2))); obtain ⟨q0, q1, q2, q3, q4, q5, q6, q7, q8, q9⟩ := id hX2)))
            all_goals (have hg1w := World.block_lt_of_cell? w1 _ gc1)
            all_goals (go_wp2_with fail; go_roundg m)
            all_goals (first | omega | skip)
            all_goals (
              have HR2 := HR.out.2
              rw [raisS, if_neg (by rw [HV.out]; decide)] at HR2
              refine ⟨_, _, _, _, j + 1, true, by omega, by omega, ⟨by decide, HR2⟩, (by (first | exact (((hX.mono hb1).monos (by omega) hb2)).far (by omega) | exact (((hX.mono hb1).drew.monos (by omega) hb2)).far (by omega) | exact (((hX.drew.mono hb1).monos (by omega) hb2)).far (by omega) | exact (((hX.drew.mono hb1).drew.monos (by omega) hb2)).far (by omega))), (by rw [hj1]; exact hX2.put _ _ _ _ _), (by (first | exact (((hZ.mono hb1).monos (by omega) hb2)).far (by omega) | exact (((hZ.mono hb1).drew.monos (by omega) hb2)).far (by omega) | exact (((hZ.drew.mono hb1).monos (by omega) hb2)).far (by omega) | exact (((hZ.drew.mono hb1).drew.monos (by omega) hb2)).far (by omega))), (ks5 (by omega) (by (first | exact (hb2.cell (p := ⟨g, 0, none⟩) hg1w).trans (World.cell?_setCell_same _ _ _ gc1)))), (by simp only [World.frozen?_setCell]; (first | exact (hb2.frozen (p := ⟨g, 0, none⟩) hg1w).trans ((World.frozen?_setCell _ _ _ _).trans gf1) | (rw [hb2.frozen (p := ⟨g, 0, none⟩) hg1w]; simp [gf1]))), ?_⟩)
            all_goals (have hBB := (by (first | exact bad_step (v := .bool true) (chain hB hb1 (by omega)) hg2 hb2 (by omega) | exact bad_step (v := .bool true) (chain hB.drew hb1 (by first | omega | (simp; omega))) hg2 hb2 (by omega)) : Below w.heap.size (w.setCell ⟨g, 0, none⟩ (.bool true)) w2))
            all_goals (repeat' (first | (with_reducible assumption) | (with_reducible exact Below.refl _ _) | (with_reducible refine Below.alloc ?_ ?_ _) | (with_reducible refine Below.drew ?_) | (with_reducible refine both ?_ _ _ ?_ _) | (with_reducible refine Below.setCell ?_ ?_ _) | (with_reducible refine chain2 ?_ (by with_reducible assumption) ?_) | (with_reducible refine chain ?_ (by with_reducible assumption) ?_) | omega | (simp; done) | (simp; omega)))

          · have HV := hid hv
            clear hv
            go_wp2_with (fail)
            go_region_with (first
              | (go_at_call 169; ((with_reducible refine (lrt _ _ _ _ _ HR.out.1).mono ?_); rintro ee w1 ⟨rfl, hb1⟩; obtain ⟨hc1, hf1, hz1⟩ := bcellB hb1; (try simp only [World.size_drew, World.size_alloc, World.size_setCell] at hz1); (first | (have ho1wr : wr.heap.size < w1.heap.size := (by omega)) | (have ho1wr : wr.heap.size ≤ w1.heap.size := (by omega)) | skip); have gc1 : w1.cell? ⟨g, 0, none⟩ = some (.bool z') := (by (first | exact kc hb1 hgc | exact kc hb1 (a := wr.drew) hgc)); have gf1 : w1.frozen? ⟨g, 0, none⟩ = false := (by (first | exact kf hb1 hgc hgf | exact kf hb1 (a := wr.drew) hgc hgf)); (first | (have hX1 := hY.mono hb1) | (have hX1 := hY.drew.mono hb1)); obtain ⟨n0, n1, n2, n3, n4, n5, n6, n7, n8, n9⟩ := id hX1))
              | (go_at_call 167; ((with_reducible refine (ring_t _ _ _ _ _ _ HV.out).mono ?_); rintro ee w2 ⟨rfl, hb2⟩; obtain ⟨hc2, hf2, hz2⟩ := bcellB hb2; (try simp only [World.size_drew, World.size_alloc, World.size_setCell] at hz2); (first | (have ho2wr : wr.heap.size < w2.heap.size := (by omega)) | (have ho2wr : wr.heap.size ≤ w2.heap.size := (by omega)) | skip); (first | (have ho2w1 : w1.heap.size < w2.heap.size := (by omega)) | (have ho2w1 : w1.heap.size ≤ w2.heap.size := (by omega)) | skip); (first | (have hX2 := ((hY.mono hb1).mono hb2)) | (have hX2 := ((hY.mono hb1).drew.mono hb2)) | (have hX2 := ((hY.drew.mono hb1).mono hb2)) | (have hX2 := ((hY.drew.mono hb1).drew.mono hb2))); obtain ⟨q0, q1, q2, q3, q4, q5, q6, q7, q8, q9⟩ := id hX2)))
            all_goals (have hg1w := World.block_lt_of_cell? w1 _ gc1)
            all_goals (go_wp2_with fail; go_roundg m)
            all_goals (first | omega | skip)
            all_goals (
              have HR2 := HR.out.2
              rw [raisS, if_pos HV.out] at HR2
              refine ⟨_, _, _, _, j + 1, z', by omega, by omega, ⟨HV.out, HR2⟩, (by (first | exact (((hX.mono hb1).mono hb2)).far (by omega) | exact (((hX.mono hb1).drew.mono hb2)).far (by omega) | exact (((hX.drew.mono hb1).mono hb2)).far (by omega) | exact (((hX.drew.mono hb1).drew.mono hb2)).far (by omega))), (by rw [hj1]; exact hX2.put _ _ _ _ _), (by (first | exact (((hZ.mono hb1).mono hb2)).far (by omega) | exact (((hZ.mono hb1).drew.mono hb2)).far (by omega) | exact (((hZ.drew.mono hb1).mono hb2)).far (by omega) | exact (((hZ.drew.mono hb1).drew.mono hb2)).far (by omega))), (ks5 (by omega) (by (first | exact kc hb2 gc1 | exact kc (a := w1.drew) hb2 gc1))), (by simp only [World.frozen?_setCell]; (first | exact kf hb2 gc1 gf1 | exact kf (a := w1.drew) hb2 gc1 gf1)), ?_⟩)
            all_goals (repeat' (first | (with_reducible assumption) | (with_reducible exact Below.refl _ _) | (with_reducible refine Below.alloc ?_ ?_ _) | (with_reducible refine Below.drew ?_) | (with_reducible refine both ?_ _ _ ?_ _) | (with_reducible refine Below.setCell ?_ ?_ _) | (with_reducible refine chain2 ?_ (by with_reducible assumption) ?_) | (with_reducible refine chain ?_ (by with_reducible assumption) ?_) | omega | (simp; done) | (simp; omega)))

    | succ m =>
      have hjf : j < f := by omega
      have hj60 : (j : Int) ≤ 60 := by omega
      have hj1 : ((j + 1 : Nat) : Int) = (j : Int) + 1 := by omega
      have hwj : IntKind.i64.wrap ((j : Int) + 1) = (j : Int) + 1 := wr64 (by omega) (by omega)
      cases hv : vr (b' - d') (a' + c') (b' + d') (c' - a')
      · have HV := hid hv
        clear hv
        go_wp2_with (fail)
        go_region_with (first
          | (go_at_call 169; ((with_reducible refine (lrt _ _ _ _ _ HR.out.1).mono ?_); rintro ee w1 ⟨rfl, hb1⟩; obtain ⟨hc1, hf1, hz1⟩ := bcellB hb1; (try simp only [World.size_drew, World.size_alloc, World.size_setCell] at hz1); (first | (have ho1wr : wr.heap.size < w1.heap.size := (by omega)) | (have ho1wr : wr.heap.size ≤ w1.heap.size := (by omega)) | skip); have gc1 : w1.cell? ⟨g, 0, none⟩ = some (.bool z') := (by (first | exact kc hb1 hgc | exact kc hb1 (a := wr.drew) hgc)); have gf1 : w1.frozen? ⟨g, 0, none⟩ = false := (by (first | exact kf hb1 hgc hgf | exact kf hb1 (a := wr.drew) hgc hgf)); (first | (have hX1 := hX.mono hb1) | (have hX1 := hX.drew.mono hb1)); obtain ⟨n0, n1, n2, n3, n4, n5, n6, n7, n8, n9⟩ := id hX1))
          | (go_at_call 167; ((with_reducible refine (ring_f g _ _ _ _ z' _ gc1 gf1 HV.out).mono ?_); rintro ee w2 ⟨rfl, hb2⟩; obtain ⟨hc2, hf2, hz2⟩ := bcellB hb2; (try simp only [World.size_drew, World.size_alloc, World.size_setCell] at hz2); (first | (have ho2wr : wr.heap.size < w2.heap.size := (by omega)) | skip); (first | (have ho2w1 : w1.heap.size ≤ w2.heap.size := (by omega)) | skip); (first | (have hX2 := ((hX.mono hb1).monos (by omega) hb2)) | (have hX2 := ((hX.mono hb1).drew.monos (by omega) hb2)) | (have hX2 := ((hX.drew.mono hb1).monos (by omega) hb2)) | (have hX2 := ((hX.drew.mono hb1).drew.monos (by omega) hb2))); obtain ⟨q0, q1, q2, q3, q4, q5, q6, q7, q8, q9⟩ := id hX2)))
        all_goals (have hg1w := World.block_lt_of_cell? w1 _ gc1)
        all_goals (go_wp2_with fail; go_roundg m)
        all_goals (first | omega | skip)
        all_goals (
          have HR2 := HR.out.2
          rw [raisS, if_neg (by rw [HV.out]; decide)] at HR2
          refine ⟨_, _, _, _, j + 1, true, by omega, by omega, ⟨by decide, HR2⟩, (by rw [hj1]; exact hX2.put _ _ _ _ _), (by (first | exact (((hY.mono hb1).monos (by omega) hb2)).far (by omega) | exact (((hY.mono hb1).drew.monos (by omega) hb2)).far (by omega) | exact (((hY.drew.mono hb1).monos (by omega) hb2)).far (by omega) | exact (((hY.drew.mono hb1).drew.monos (by omega) hb2)).far (by omega))), (by (first | exact (((hZ.mono hb1).monos (by omega) hb2)).far (by omega) | exact (((hZ.mono hb1).drew.monos (by omega) hb2)).far (by omega) | exact (((hZ.drew.mono hb1).monos (by omega) hb2)).far (by omega) | exact (((hZ.drew.mono hb1).drew.monos (by omega) hb2)).far (by omega))), (ks5 (by omega) (by (first | exact (hb2.cell (p := ⟨g, 0, none⟩) hg1w).trans (World.cell?_setCell_same _ _ _ gc1)))), (by simp only [World.frozen?_setCell]; (first | exact (hb2.frozen (p := ⟨g, 0, none⟩) hg1w).trans ((World.frozen?_setCell _ _ _ _).trans gf1) | (rw [hb2.frozen (p := ⟨g, 0, none⟩) hg1w]; simp [gf1]))), ?_⟩)
        all_goals (have hBB := (by (first | exact bad_step (v := .bool true) (chain hB hb1 (by omega)) hg2 hb2 (by omega) | exact bad_step (v := .bool true) (chain hB.drew hb1 (by first | omega | (simp; omega))) hg2 hb2 (by omega)) : Below w.heap.size (w.setCell ⟨g, 0, none⟩ (.bool true)) w2))
        all_goals (repeat' (first | (with_reducible assumption) | (with_reducible exact Below.refl _ _) | (with_reducible refine Below.alloc ?_ ?_ _) | (with_reducible refine Below.drew ?_) | (with_reducible refine both ?_ _ _ ?_ _) | (with_reducible refine Below.setCell ?_ ?_ _) | (with_reducible refine chain2 ?_ (by with_reducible assumption) ?_) | (with_reducible refine chain ?_ (by with_reducible assumption) ?_) | omega | (simp; done) | (simp; omega)))

      · have HV := hid hv
        clear hv
        go_wp2_with (fail)
        go_region_with (first
          | (go_at_call 169; ((with_reducible refine (lrt _ _ _ _ _ HR.out.1).mono ?_); rintro ee w1 ⟨rfl, hb1⟩; obtain ⟨hc1, hf1, hz1⟩ := bcellB hb1; (try simp only [World.size_drew, World.size_alloc, World.size_setCell] at hz1); (first | (have ho1wr : wr.heap.size < w1.heap.size := (by omega)) | (have ho1wr : wr.heap.size ≤ w1.heap.size := (by omega)) | skip); have gc1 : w1.cell? ⟨g, 0, none⟩ = some (.bool z') := (by (first | exact kc hb1 hgc | exact kc hb1 (a := wr.drew) hgc)); have gf1 : w1.frozen? ⟨g, 0, none⟩ = false := (by (first | exact kf hb1 hgc hgf | exact kf hb1 (a := wr.drew) hgc hgf)); (first | (have hX1 := hX.mono hb1) | (have hX1 := hX.drew.mono hb1)); obtain ⟨n0, n1, n2, n3, n4, n5, n6, n7, n8, n9⟩ := id hX1))
          | (go_at_call 167; ((with_reducible refine (ring_t _ _ _ _ _ _ HV.out).mono ?_); rintro ee w2 ⟨rfl, hb2⟩; obtain ⟨hc2, hf2, hz2⟩ := bcellB hb2; (try simp only [World.size_drew, World.size_alloc, World.size_setCell] at hz2); (first | (have ho2wr : wr.heap.size < w2.heap.size := (by omega)) | (have ho2wr : wr.heap.size ≤ w2.heap.size := (by omega)) | skip); (first | (have ho2w1 : w1.heap.size < w2.heap.size := (by omega)) | (have ho2w1 : w1.heap.size ≤ w2.heap.size := (by omega)) | skip); (first | (have hX2 := ((hX.mono hb1).mono hb2)) | (have hX2 := ((hX.mono hb1).drew.mono hb2)) | (have hX2 := ((hX.drew.mono hb1).mono hb2)) | (have hX2 := ((hX.drew.mono hb1).drew.mono hb2))); obtain ⟨q0, q1, q2, q3, q4, q5, q6, q7, q8, q9⟩ := id hX2)))
        all_goals (have hg1w := World.block_lt_of_cell? w1 _ gc1)
        all_goals (go_wp2_with fail; go_roundg m)
        all_goals (first | omega | skip)
        all_goals (
          have HR2 := HR.out.2
          rw [raisS, if_pos HV.out] at HR2
          refine ⟨_, _, _, _, j + 1, z', by omega, by omega, ⟨HV.out, HR2⟩, (by rw [hj1]; exact hX2.put _ _ _ _ _), (by (first | exact (((hY.mono hb1).mono hb2)).far (by omega) | exact (((hY.mono hb1).drew.mono hb2)).far (by omega) | exact (((hY.drew.mono hb1).mono hb2)).far (by omega) | exact (((hY.drew.mono hb1).drew.mono hb2)).far (by omega))), (by (first | exact (((hZ.mono hb1).mono hb2)).far (by omega) | exact (((hZ.mono hb1).drew.mono hb2)).far (by omega) | exact (((hZ.drew.mono hb1).mono hb2)).far (by omega) | exact (((hZ.drew.mono hb1).drew.mono hb2)).far (by omega))), (ks5 (by omega) (by (first | exact kc hb2 gc1 | exact kc (a := w1.drew) hb2 gc1))), (by simp only [World.frozen?_setCell]; (first | exact kf hb2 gc1 gf1 | exact kf (a := w1.drew) hb2 gc1 gf1)), ?_⟩)
        all_goals (repeat' (first | (with_reducible assumption) | (with_reducible exact Below.refl _ _) | (with_reducible refine Below.alloc ?_ ?_ _) | (with_reducible refine Below.drew ?_) | (with_reducible refine both ?_ _ _ ?_ _) | (with_reducible refine Below.setCell ?_ ?_ _) | (with_reducible refine chain2 ?_ (by with_reducible assumption) ?_) | (with_reducible refine chain ?_ (by with_reducible assumption) ?_) | omega | (simp; done) | (simp; omega)))

end Go.Proofs.Ytofclfgaekjonaa
