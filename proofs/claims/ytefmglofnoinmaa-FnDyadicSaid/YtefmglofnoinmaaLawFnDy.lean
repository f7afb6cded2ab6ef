/- The law on sums and products of drawn dyadic numbers. -/
import Derived.Test.YtefmglofnoinmaaDyFn
import Derived.Deep.LoopGhost
import Derived.Test.YtefmglofnoinmaaHeldB
import Derived.Deep.RegionHeld3
import Derived.Deep.MidRow
import Derived.Deep.DeepCutAuto
import Derived.Deep.RegionWith
namespace Go.Proofs.Ytefmglofnoinmaa
open Go.RowKit RM
set_option linter.unusedVariables false
set_option linter.unusedSimpArgs false
attribute [local irreducible] World.setCell

set_option maxRecDepth 100000 in
set_option maxHeartbeats 16000000 in
theorem fnDyadic_walk {A B : Option Addr} {len cap len2 cap2 : Nat} {w : World} (hA : Bs w A len) (hB : Bs w B len2) :
    Calls Try.prog 6 #[.slice A len cap, .slice B len2 cap2] w fun ee w' => ee = .returned (.bool true) ∧ Below w.heap.size w w' := by
  have HA := hid hA
  have HB := hid hB
  have HLA := hid hA.le
  have HLB := hid hB.le
  clear hA hB
  go_enter Try.func6, Try.ntmps6
  go_upto_region 11 with (first
    | (go_at_call 17; ((with_reducible refine (big_any _ HLA.out HLB.out).mono ?_); rintro ee w1 ⟨v0, rfl, hb1⟩; have hs1 := hb1.size; (try simp at hs1)))
    | (go_at_call 40; ((with_reducible refine (dD2 (HA.out.below hb1)).mono ?_); rintro ee w2 ⟨a, b, c, d, x, p, q, r, s, y, rfl, hb2⟩; have hs2 := hb2.size; (try simp at hs2)))
    | (go_at_call 41; ((with_reducible refine (dConjD (((HB.out.below hb1).below hb2).alloc _ |>.alloc _)).mono ?_); rintro ee w3 ⟨t, u, v, l, z, rfl, hb3⟩; have hs3 := hb3.size; (try simp at hs3); have x_3 := ((C5.ofg (W := w2) (g := w2.heap.size) (a) (b) (c) (d) (x) 39 (by simp)).al).mono hb3; have y_3 := (C5.ofg (W := (w2.alloc (.cells #[.int .i64 (a), .int .i64 (b), .int .i64 (c), .int .i64 (d), .int .i64 (x)] 39))) (g := w2.heap.size + 1) (p) (q) (r) (s) (y) 39 (by simp)).mono hb3; have hl_x_3 := x_3.lt; obtain ⟨cx0, cx1, cx2, cx3, cx4, fx0, fx1, fx2, fx3, fx4⟩ := id x_3; have hl_y_3 := y_3.lt; obtain ⟨cy0, cy1, cy2, cy3, cy4, fy0, fy1, fy2, fy3, fy4⟩ := id y_3; obtain ⟨La1, Lb1, Lc1, Ld1, Le1, k1, ia1, ia2, ia3, pa⟩ := add_all a b c d x p q r s y; obtain ⟨La2, Lb2, Lc2, Ld2, Le2, k2, is1, ps⟩ := sub_any La1 Lb1 Lc1 Ld1 Le1 p q r s y; obtain ⟨La3, Lb3, Lc3, Ld3, Le3, k3, im1, im2, pm3⟩ := mul_all a b c d x p q r s y; obtain ⟨La4, Lb4, Lc4, Ld4, Le4, k4, ix1, ix2, pm4⟩ := mul_all a b c d x t u v l z; obtain ⟨La5, Lb5, Lc5, Ld5, Le5, k5, iy1, iy2, pm5⟩ := mul_all p q r s y t u v l z; obtain ⟨La6, Lb6, Lc6, Ld6, Le6, k6, il1, il2, pm6⟩ := mul_all La1 Lb1 Lc1 Ld1 Le1 t u v l z; obtain ⟨La7, Lb7, Lc7, Ld7, Le7, k7, ir1, ir2, ir3, pr⟩ := add_all La4 Lb4 Lc4 Ld4 Le4 La5 Lb5 Lc5 Ld5 Le5; have IA1 := hid ia1; clear ia1; have IA2 := hid ia2; clear ia2; have IA3 := hid ia3; clear ia3; have PA := hid pa; clear pa; have IS1 := hid is1; clear is1; have PS := hid ps; clear ps; have IM1 := hid im1; clear im1; have IM2 := hid im2; clear im2; have IX1 := hid ix1; clear ix1; have PM4 := hid pm4; clear pm4; have IY1 := hid iy1; clear iy1; have PM5 := hid pm5; clear pm5; have IL1 := hid il1; clear il1; have PM6 := hid pm6; clear pm6; have IR1 := hid ir1; clear ir1; have PR := hid pr; clear pr; clear pm3 ix2 iy2 il2 ir2 ir3))
    | (go_at_call 42; ((with_reducible refine (IA1.out _).mono ?_); rintro ee w4 ⟨rfl, hb4⟩; have hs4 := hb4.size; (try simp at hs4); have x_4 := ((x_3).al).mono hb4; have y_4 := ((y_3).al).mono hb4; have z_4 := (C5.ofg (W := w3) (g := w3.heap.size) (t) (u) (v) (l) (z) 39 (by simp)).mono hb4; have hl_x_4 := x_4.lt; obtain ⟨cx0, cx1, cx2, cx3, cx4, fx0, fx1, fx2, fx3, fx4⟩ := id x_4; have hl_y_4 := y_4.lt; obtain ⟨cy0, cy1, cy2, cy3, cy4, fy0, fy1, fy2, fy3, fy4⟩ := id y_4))
    | (go_at_call 42; ((with_reducible refine (IA2.out _).mono ?_); rintro ee w5 ⟨rfl, hb5⟩; have hs5 := hb5.size; (try simp at hs5); have x_5 := ((x_4).al).mono hb5; have y_5 := ((y_4).al).mono hb5; have z_5 := ((z_4).al).mono hb5; have s_5 := (C5.ofg (W := w4) (g := w4.heap.size) (La1) (Lb1) (Lc1) (Ld1) (Le1) 39 (by simp)).mono hb5; have hl_x_5 := x_5.lt; obtain ⟨cx0, cx1, cx2, cx3, cx4, fx0, fx1, fx2, fx3, fx4⟩ := id x_5; have hl_y_5 := y_5.lt; obtain ⟨cy0, cy1, cy2, cy3, cy4, fy0, fy1, fy2, fy3, fy4⟩ := id y_5))
    | (go_at_call 43; ((with_reducible refine (IA3.out _).mono ?_); rintro ee w6 ⟨rfl, hb6⟩; have hs6 := hb6.size; (try simp at hs6); have x_6 := ((x_5).al).mono hb6; have y_6 := ((y_5).al).mono hb6; have z_6 := ((z_5).al).mono hb6; have s_6 := ((s_5).al).mono hb6; have t_6 := (C5.ofg (W := w5) (g := w5.heap.size) (La1) (Lb1) (Lc1) (Ld1) (Le1) 39 (by simp)).mono hb6; have hl_s_6 := s_6.lt; obtain ⟨cs0, cs1, cs2, cs3, cs4, fs0, fs1, fs2, fs3, fs4⟩ := id s_6; have hl_t_6 := t_6.lt; obtain ⟨ct0, ct1, ct2, ct3, ct4, ft0, ft1, ft2, ft3, ft4⟩ := id t_6; have hl_y_6 := y_6.lt; obtain ⟨cy0, cy1, cy2, cy3, cy4, fy0, fy1, fy2, fy3, fy4⟩ := id y_6))
    | (go_at_call 44; ((with_reducible refine (IS1.out _).mono ?_); rintro ee w7 ⟨rfl, hb7⟩; have hs7 := hb7.size; (try simp at hs7); have x_7 := ((x_6).al).mono hb7; have y_7 := ((y_6).al).mono hb7; have z_7 := ((z_6).al).mono hb7; have s_7 := ((s_6).al).mono hb7; have hl_x_7 := x_7.lt; obtain ⟨cx0, cx1, cx2, cx3, cx4, fx0, fx1, fx2, fx3, fx4⟩ := id x_7)))
  · go_ret
    refine ⟨rfl, ?_⟩
    repeat' (first | (with_reducible assumption) | (with_reducible exact Below.refl _ _) | (with_reducible refine Below.alloc ?_ ?_ _) | (with_reducible refine Below.drew ?_) | (with_reducible refine Below.setCell ?_ ?_ _) | (with_reducible refine Kp.belowA (by with_reducible assumption) ?_ ?_) | (with_reducible refine chain ?_ (by with_reducible assumption) ?_) | omega | (simp; done) | (simp; omega))
  · go_cut [88] (fun s wx => s = .bool false ∧ wx = w7.alloc (.cells #[.int .i64 (La2), .int .i64 (Lb2), .int .i64 (Lc2), .int .i64 (Ld2), .int .i64 (Le2)] 39))
    case first =>
      cases k1
      · go_wp2_with fail
        go_meet
        exact ⟨rfl, rfl⟩
      · cases k2
        · go_wp2_with fail
          go_meet
          exact ⟨rfl, rfl⟩
        · obtain ⟨e, f, g, rfl, rfl, rfl, vx, vy, vs, sv⟩ := PA.out rfl
          obtain ⟨g', f', h, eg, ef, rfl, _, _, vb, sb⟩ := PS.out rfl
          obtain rfl : g = g' := by omega
          obtain rfl : f = f' := by omega
          obtain ⟨hq, hh⟩ := back_eq (lw_of vx) (lw_of vb) (le_of vx) (le_of vy) (le_of vs) (le_of vb) sv sb
          simp only [R4.mk.injEq] at hq
          obtain ⟨rfl, rfl, rfl, rfl⟩ := hq
          subst hh
          go_wp2_with fail
          go_meet
          exact ⟨rfl, rfl⟩
    case rest =>
      obtain ⟨rfl, rfl⟩ := hcut
      obtain ⟨cx0, cx1, cx2, cx3, cx4, fx0, fx1, fx2, fx3, fx4⟩ := id x_7
      obtain ⟨cy0, cy1, cy2, cy3, cy4, fy0, fy1, fy2, fy3, fy4⟩ := id y_7
      have hlx7 := x_7.lt
      have hly7 := y_7.lt
      go_upto_region 21 with (first
        | (go_at_call 45; ((with_reducible refine (IM1.out _).mono ?_); rintro ee w8 ⟨rfl, hb8⟩; have hs8 := hb8.size; (try simp at hs8); have x_8 := ((x_7).al).mono hb8; have y_8 := ((y_7).al).mono hb8; have z_8 := ((z_7).al).mono hb8; have s_8 := ((s_7).al).mono hb8; have hl_x_8 := x_8.lt; obtain ⟨cx0, cx1, cx2, cx3, cx4, fx0, fx1, fx2, fx3, fx4⟩ := id x_8; have hl_y_8 := y_8.lt; obtain ⟨cy0, cy1, cy2, cy3, cy4, fy0, fy1, fy2, fy3, fy4⟩ := id y_8))
        | (go_at_call 45; ((with_reducible refine (IM2.out _).mono ?_); rintro ee w9 ⟨rfl, hb9⟩; have hs9 := hb9.size; (try simp at hs9); have x_9 := ((x_8).al).mono hb9; have y_9 := ((y_8).al).mono hb9; have z_9 := ((z_8).al).mono hb9; have s_9 := ((s_8).al).mono hb9; have p_9 := (C5.ofg (W := w8) (g := w8.heap.size) (La3) (Lb3) (Lc3) (Ld3) (Le3) 39 (by simp)).mono hb9; have hl_p_9 := p_9.lt; obtain ⟨cp0, cp1, cp2, cp3, cp4, fp0, fp1, fp2, fp3, fp4⟩ := id p_9; have hl_x_9 := x_9.lt; obtain ⟨cx0, cx1, cx2, cx3, cx4, fx0, fx1, fx2, fx3, fx4⟩ := id x_9; have hl_z_9 := z_9.lt; obtain ⟨cz0, cz1, cz2, cz3, cz4, fz0, fz1, fz2, fz3, fz4⟩ := id z_9))
        | (go_at_call 45; ((with_reducible refine (IX1.out _).mono ?_); rintro ee w10 ⟨rfl, hb10⟩; have hs10 := hb10.size; (try simp at hs10); have x_10 := ((x_9).al).mono hb10; have y_10 := ((y_9).al).mono hb10; have z_10 := ((z_9).al).mono hb10; have s_10 := ((s_9).al).mono hb10; have hl_y_10 := y_10.lt; obtain ⟨cy0, cy1, cy2, cy3, cy4, fy0, fy1, fy2, fy3, fy4⟩ := id y_10; have hl_z_10 := z_10.lt; obtain ⟨cz0, cz1, cz2, cz3, cz4, fz0, fz1, fz2, fz3, fz4⟩ := id z_10))
        | (go_at_call 45; ((with_reducible refine (IY1.out _).mono ?_); rintro ee w11 ⟨rfl, hb11⟩; have hs11 := hb11.size; (try simp at hs11); have x_11 := ((x_10).al).mono hb11; have y_11 := ((y_10).al).mono hb11; have z_11 := ((z_10).al).mono hb11; have s_11 := ((s_10).al).mono hb11; have xz_11 := (C5.ofg (W := w10) (g := w10.heap.size) (La4) (Lb4) (Lc4) (Ld4) (Le4) 39 (by simp)).mono hb11; have hl_s_11 := s_11.lt; obtain ⟨cs0, cs1, cs2, cs3, cs4, fs0, fs1, fs2, fs3, fs4⟩ := id s_11; have hl_z_11 := z_11.lt; obtain ⟨cz0, cz1, cz2, cz3, cz4, fz0, fz1, fz2, fz3, fz4⟩ := id z_11))
        | (go_at_call 45; ((with_reducible refine (IL1.out _).mono ?_); rintro ee w12 ⟨rfl, hb12⟩; have hs12 := hb12.size; (try simp at hs12); have x_12 := ((x_11).al).mono hb12; have y_12 := ((y_11).al).mono hb12; have z_12 := ((z_11).al).mono hb12; have s_12 := ((s_11).al).mono hb12; have xz_12 := ((xz_11).al).mono hb12; have yz_12 := (C5.ofg (W := w11) (g := w11.heap.size) (La5) (Lb5) (Lc5) (Ld5) (Le5) 39 (by simp)).mono hb12; have hl_xz_12 := xz_12.lt; obtain ⟨cxz0, cxz1, cxz2, cxz3, cxz4, fxz0, fxz1, fxz2, fxz3, fxz4⟩ := id xz_12; have hl_yz_12 := yz_12.lt; obtain ⟨cyz0, cyz1, cyz2, cyz3, cyz4, fyz0, fyz1, fyz2, fyz3, fyz4⟩ := id yz_12))
        | (go_at_call 42; ((with_reducible refine (IR1.out _).mono ?_); rintro ee w13 ⟨rfl, hb13⟩; have hs13 := hb13.size; (try simp at hs13); have x_13 := ((x_12).al).mono hb13; have y_13 := ((y_12).al).mono hb13; have z_13 := ((z_12).al).mono hb13; have s_13 := ((s_12).al).mono hb13; have xz_13 := ((xz_12).al).mono hb13; have yz_13 := ((yz_12).al).mono hb13; have lf_13 := (C5.ofg (W := w12) (g := w12.heap.size) (La6) (Lb6) (Lc6) (Ld6) (Le6) 39 (by simp)).mono hb13; have hl_lf_13 := lf_13.lt; obtain ⟨clf0, clf1, clf2, clf3, clf4, flf0, flf1, flf2, flf3, flf4⟩ := id lf_13)))
      cases k1
      · go_wp2_with fail
        go_ret
        refine ⟨rfl, ?_⟩
        repeat' (first | (with_reducible assumption) | (with_reducible exact Below.refl _ _) | (with_reducible refine Below.alloc ?_ ?_ _) | (with_reducible refine Below.drew ?_) | (with_reducible refine Below.setCell ?_ ?_ _) | (with_reducible refine Kp.belowA (by with_reducible assumption) ?_ ?_) | (with_reducible refine chain ?_ (by with_reducible assumption) ?_) | omega | (simp; done) | (simp; omega))
      · cases k4
        · go_wp2_with fail
          go_ret
          refine ⟨rfl, ?_⟩
          repeat' (first | (with_reducible assumption) | (with_reducible exact Below.refl _ _) | (with_reducible refine Below.alloc ?_ ?_ _) | (with_reducible refine Below.drew ?_) | (with_reducible refine Below.setCell ?_ ?_ _) | (with_reducible refine Kp.belowA (by with_reducible assumption) ?_ ?_) | (with_reducible refine chain ?_ (by with_reducible assumption) ?_) | omega | (simp; done) | (simp; omega))
        · cases k5
          · go_wp2_with fail
            go_ret
            refine ⟨rfl, ?_⟩
            repeat' (first | (with_reducible assumption) | (with_reducible exact Below.refl _ _) | (with_reducible refine Below.alloc ?_ ?_ _) | (with_reducible refine Below.drew ?_) | (with_reducible refine Below.setCell ?_ ?_ _) | (with_reducible refine Kp.belowA (by with_reducible assumption) ?_ ?_) | (with_reducible refine chain ?_ (by with_reducible assumption) ?_) | omega | (simp; done) | (simp; omega))
          · cases k6
            · go_wp2_with fail
              go_ret
              refine ⟨rfl, ?_⟩
              repeat' (first | (with_reducible assumption) | (with_reducible exact Below.refl _ _) | (with_reducible refine Below.alloc ?_ ?_ _) | (with_reducible refine Below.drew ?_) | (with_reducible refine Below.setCell ?_ ?_ _) | (with_reducible refine Kp.belowA (by with_reducible assumption) ?_ ?_) | (with_reducible refine chain ?_ (by with_reducible assumption) ?_) | omega | (simp; done) | (simp; omega))
            · cases k7
              · go_wp2_with fail
                go_ret
                refine ⟨rfl, ?_⟩
                repeat' (first | (with_reducible assumption) | (with_reducible exact Below.refl _ _) | (with_reducible refine Below.alloc ?_ ?_ _) | (with_reducible refine Below.drew ?_) | (with_reducible refine Below.setCell ?_ ?_ _) | (with_reducible refine Kp.belowA (by with_reducible assumption) ?_ ?_) | (with_reducible refine chain ?_ (by with_reducible assumption) ?_) | omega | (simp; done) | (simp; omega))
              · obtain ⟨e, f, g, rfl, rfl, rfl, vx, vy, vs, sv⟩ := PA.out rfl
                obtain ⟨e1, h, a1, q1, rfl, rfl, _, vz, v4, l4, u4⟩ := PM4.out rfl
                obtain ⟨f1, h1, b1, q2, q3, rfl, _, _, v5, l5, u5⟩ := PM5.out rfl
                obtain ⟨g1, h2, c1, q4, q5, rfl, _, _, v6, l6, u6⟩ := PM6.out rfl
                obtain ⟨a2, b2, k, q6, q7, rfl, _, _, v7, s7⟩ := PR.out rfl
                obtain rfl : e = e1 := by omega
                obtain rfl : f = f1 := by omega
                obtain rfl : g = g1 := by omega
                obtain rfl : h = h1 := by omega
                obtain rfl : h = h2 := by omega
                obtain rfl : a1 = a2 := by omega
                obtain rfl : b1 = b2 := by omega
                obtain ⟨hq, hh⟩ := dist_eq (lw_of v6) (lw_of v7) (le_of vx) (le_of vy) (le_of vs) sv l4 u4 l5 u5 l6 u6 (le_of v7) s7
                simp only [R4.mk.injEq] at hq
                obtain ⟨rfl, rfl, rfl, rfl⟩ := hq
                subst hh
                go_wp2_with fail
                go_ret
                refine ⟨by simp, ?_⟩
                repeat' (first | (with_reducible assumption) | (with_reducible exact Below.refl _ _) | (with_reducible refine Below.alloc ?_ ?_ _) | (with_reducible refine Below.drew ?_) | (with_reducible refine Below.setCell ?_ ?_ _) | (with_reducible refine Kp.belowA (by with_reducible assumption) ?_ ?_) | (with_reducible refine chain ?_ (by with_reducible assumption) ?_) | omega | (simp; done) | (simp; omega))
end Go.Proofs.Ytefmglofnoinmaa
