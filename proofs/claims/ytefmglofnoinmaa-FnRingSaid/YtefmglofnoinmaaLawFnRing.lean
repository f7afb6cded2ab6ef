/- The law on sums and products of drawn numbers of the ring. -/
import Derived.Test.YtefmglofnoinmaaLawZ
import Derived.Deep.LoopGhost
import Derived.Test.YtefmglofnoinmaaHeldB
import Derived.Deep.RegionHeld3
import Derived.Deep.MidRow
import Derived.Deep.DeepCutAuto
import Derived.Deep.RegionWith
import Derived.Deep.DeepCutAuto
namespace Go.Proofs.Ytefmglofnoinmaa
open Go.RowKit RM
set_option linter.unusedVariables false
set_option linter.unusedSimpArgs false
attribute [local irreducible] World.setCell

set_option maxRecDepth 100000 in
set_option maxHeartbeats 16000000 in
theorem fnRing_walk {A B : Option Addr} {len cap len2 cap2 : Nat} {w : World} (hA : Bs w A len) (hB : Bs w B len2) :
    Calls Try.prog 3 #[.slice A len cap, .slice B len2 cap2] w fun ee w' => ee = .returned (.bool true) ∧ Below w.heap.size w w' := by
  have HA := hid hA
  have HB := hid hB
  have HLA := hid hA.le
  have HLB := hid hB.le
  clear hA hB
  go_enter Try.func3, Try.ntmps3
  go_upto_region 14 with (first
    | (go_at_call 17; ((with_reducible refine (big_any _ HLA.out HLB.out).mono ?_); rintro ee w1 ⟨v0, rfl, hb1⟩; have hs1 := hb1.size; (try simp at hs1)))
    | (go_at_call 18; ((with_reducible refine (dMul (HA.out.below hb1)).mono ?_); rintro ee w2 ⟨a, b, c, d, p, q, r, s, rfl, hb2⟩; have hs2 := hb2.size; (try simp at hs2)))
    | (go_at_call 19; ((with_reducible refine (dConj (((HB.out.below hb1).below hb2).alloc _ |>.alloc _)).mono ?_); rintro ee w3 ⟨t, u, v, l, rfl, hb3⟩; have hs3 := hb3.size; (try simp at hs3); have x_3 := ((C4.ofg (W := w2) (g := w2.heap.size) (a) (b) (c) (d) 25 (by simp)).al).mono hb3; have y_3 := (C4.ofg (W := (w2.alloc (.cells #[.int .i64 (a), .int .i64 (b), .int .i64 (c), .int .i64 (d)] 25))) (g := w2.heap.size + 1) (p) (q) (r) (s) 25 (by simp)).mono hb3; have hl_x_3 := x_3.lt; obtain ⟨cx0, cx1, cx2, cx3, fx0, fx1, fx2, fx3⟩ := id x_3; have hl_y_3 := y_3.lt; obtain ⟨cy0, cy1, cy2, cy3, fy0, fy1, fy2, fy3⟩ := id y_3; rcases hq1 : mv ⟨a, b, c, d⟩ ⟨p, q, r, s⟩ with ⟨⟨A1, B1, C1, D1⟩, k1⟩; have hq2 := hq1; rw [mv_comm] at hq2; rcases hq3 : av ⟨p, q, r, s⟩ ⟨t, u, v, l⟩ with ⟨⟨A3, B3, C3, D3⟩, k3⟩; rcases hq4 : mv ⟨a, b, c, d⟩ ⟨A3, B3, C3, D3⟩ with ⟨⟨A4, B4, C4', D4⟩, k4⟩; rcases hq5 : mv ⟨a, b, c, d⟩ ⟨t, u, v, l⟩ with ⟨⟨A5, B5, C5', D5⟩, k5⟩; rcases hq6 : av ⟨A1, B1, C1, D1⟩ ⟨A5, B5, C5', D5⟩ with ⟨⟨A6, B6, C6, D6⟩, k6⟩; have HQ1 := hid hq1; clear hq1; have HQ2 := hid hq2; clear hq2; have HQ3 := hid hq3; clear hq3; have HQ4 := hid hq4; clear hq4; have HQ5 := hid hq5; clear hq5; have HQ6 := hid hq6; clear hq6))
    | (go_at_call 20; ((with_reducible refine (mul_d a b c d p q r s A1 B1 C1 D1 _ _ HQ1.out).mono ?_); rintro ee w4 ⟨rfl, hb4⟩; have hs4 := hb4.size; (try simp at hs4); have x_4 := ((x_3).al).mono hb4; have y_4 := ((y_3).al).mono hb4; have z_4 := (C4.ofg (W := w3) (g := w3.heap.size) (t) (u) (v) (l) 25 (by simp)).mono hb4; have hl_x_4 := x_4.lt; obtain ⟨cx0, cx1, cx2, cx3, fx0, fx1, fx2, fx3⟩ := id x_4; have hl_y_4 := y_4.lt; obtain ⟨cy0, cy1, cy2, cy3, fy0, fy1, fy2, fy3⟩ := id y_4))
    | (go_at_call 20; ((with_reducible refine (mul_d p q r s a b c d A1 B1 C1 D1 _ _ HQ2.out).mono ?_); rintro ee w5 ⟨rfl, hb5⟩; have hs5 := hb5.size; (try simp at hs5); have x_5 := ((x_4).al).mono hb5; have y_5 := ((y_4).al).mono hb5; have z_5 := ((z_4).al).mono hb5; have xy_5 := (C4.ofg (W := w4) (g := w4.heap.size) (A1) (B1) (C1) (D1) 25 (by simp)).mono hb5; have hl_x_5 := x_5.lt; obtain ⟨cx0, cx1, cx2, cx3, fx0, fx1, fx2, fx3⟩ := id x_5; have hl_y_5 := y_5.lt; obtain ⟨cy0, cy1, cy2, cy3, fy0, fy1, fy2, fy3⟩ := id y_5))
    | (go_at_call 21; ((with_reducible refine (mul_sd a b c d p q r s A1 B1 C1 D1 _ _ HQ1.out).mono ?_); rintro ee w6 ⟨rfl, hb6⟩; have hs6 := hb6.size; (try simp at hs6); have x_6 := ((x_5).al).mono hb6; have y_6 := ((y_5).al).mono hb6; have z_6 := ((z_5).al).mono hb6; have xy_6 := ((xy_5).al).mono hb6; have yx_6 := (C4.ofg (W := w5) (g := w5.heap.size) (A1) (B1) (C1) (D1) 25 (by simp)).mono hb6; have hl_xy_6 := xy_6.lt; obtain ⟨cxy0, cxy1, cxy2, cxy3, fxy0, fxy1, fxy2, fxy3⟩ := id xy_6; have hl_yx_6 := yx_6.lt; obtain ⟨cyx0, cyx1, cyx2, cyx3, fyx0, fyx1, fyx2, fyx3⟩ := id yx_6; have hl_y_6 := y_6.lt; obtain ⟨cy0, cy1, cy2, cy3, fy0, fy1, fy2, fy3⟩ := id y_6; have hl_z_6 := z_6.lt; obtain ⟨cz0, cz1, cz2, cz3, fz0, fz1, fz2, fz3⟩ := id z_6))
    | (go_at_call 22; ((with_reducible refine (add_d p q r s t u v l A3 B3 C3 D3 _ _ HQ3.out).mono ?_); rintro ee w7 ⟨rfl, hb7⟩; have hs7 := hb7.size; (try simp at hs7); have x_7 := ((x_6).al).mono hb7; have y_7 := ((y_6).al).mono hb7; have z_7 := ((z_6).al).mono hb7; have xy_7 := ((xy_6).al).mono hb7; have hl_x_7 := x_7.lt; obtain ⟨cx0, cx1, cx2, cx3, fx0, fx1, fx2, fx3⟩ := id x_7))
    | (go_at_call 20; ((with_reducible refine (mul_d a b c d A3 B3 C3 D3 A4 B4 C4' D4 _ _ HQ4.out).mono ?_); rintro ee w8 ⟨rfl, hb8⟩; have hs8 := hb8.size; (try simp at hs8); have x_8 := ((x_7).al).mono hb8; have y_8 := ((y_7).al).mono hb8; have z_8 := ((z_7).al).mono hb8; have xy_8 := ((xy_7).al).mono hb8; have yz_8 := (C4.ofg (W := w7) (g := w7.heap.size) (A3) (B3) (C3) (D3) 25 (by simp)).mono hb8; have hl_x_8 := x_8.lt; obtain ⟨cx0, cx1, cx2, cx3, fx0, fx1, fx2, fx3⟩ := id x_8; have hl_z_8 := z_8.lt; obtain ⟨cz0, cz1, cz2, cz3, fz0, fz1, fz2, fz3⟩ := id z_8))
    | (go_at_call 20; ((with_reducible refine (mul_d a b c d t u v l A5 B5 C5' D5 _ _ HQ5.out).mono ?_); rintro ee w9 ⟨rfl, hb9⟩; have hs9 := hb9.size; (try simp at hs9); have x_9 := ((x_8).al).mono hb9; have y_9 := ((y_8).al).mono hb9; have z_9 := ((z_8).al).mono hb9; have xy_9 := ((xy_8).al).mono hb9; have lf_9 := (C4.ofg (W := w8) (g := w8.heap.size) (A4) (B4) (C4') (D4) 25 (by simp)).mono hb9; have hl_xy_9 := xy_9.lt; obtain ⟨cxy0, cxy1, cxy2, cxy3, fxy0, fxy1, fxy2, fxy3⟩ := id xy_9))
    | (go_at_call 22; ((with_reducible refine (add_d A1 B1 C1 D1 A5 B5 C5' D5 A6 B6 C6 D6 _ _ HQ6.out).mono ?_); rintro ee w10 ⟨rfl, hb10⟩; have hs10 := hb10.size; (try simp at hs10); have x_10 := ((x_9).al).mono hb10; have y_10 := ((y_9).al).mono hb10; have z_10 := ((z_9).al).mono hb10; have xy_10 := ((xy_9).al).mono hb10; have lf_10 := ((lf_9).al).mono hb10; have xz_10 := (C4.ofg (W := w9) (g := w9.heap.size) (A5) (B5) (C5') (D5) 25 (by simp)).mono hb10; have hl_lf_10 := lf_10.lt; obtain ⟨clf0, clf1, clf2, clf3, flf0, flf1, flf2, flf3⟩ := id lf_10; have hl_x_10 := x_10.lt; obtain ⟨cx0, cx1, cx2, cx3, fx0, fx1, fx2, fx3⟩ := id x_10; have hl_y_10 := y_10.lt; obtain ⟨cy0, cy1, cy2, cy3, fy0, fy1, fy2, fy3⟩ := id y_10; have hl_xy_10 := xy_10.lt; obtain ⟨cxy0, cxy1, cxy2, cxy3, fxy0, fxy1, fxy2, fxy3⟩ := id xy_10)))
  · go_ret
    refine ⟨rfl, ?_⟩
    repeat' (first | (with_reducible assumption) | (with_reducible exact Below.refl _ _) | (with_reducible refine Below.alloc ?_ ?_ _) | (with_reducible refine Below.drew ?_) | (with_reducible refine Below.setCell ?_ ?_ _) | (with_reducible refine Kp.belowA (by with_reducible assumption) ?_ ?_) | (with_reducible refine chain ?_ (by with_reducible assumption) ?_) | omega | (simp; done) | (simp; omega))
  · go_cut [125] (fun s wx => s = .bool false ∧ wx = w10.alloc (.cells #[.int .i64 (A6), .int .i64 (B6), .int .i64 (C6), .int .i64 (D6)] 25))
    case first =>
      cases k1
      · go_wp2_with fail
        go_meet
        exact ⟨rfl, rfl⟩
      · cases k3
        · go_wp2_with fail
          go_meet
          exact ⟨rfl, rfl⟩
        · cases k4
          · go_wp2_with fail
            go_meet
            exact ⟨rfl, rfl⟩
          · cases k5
            · go_wp2_with fail
              go_meet
              exact ⟨rfl, rfl⟩
            · cases k6
              · go_wp2_with fail
                go_meet
                exact ⟨rfl, rfl⟩
              · have hd := dist HQ1.out HQ3.out HQ4.out HQ5.out HQ6.out
                simp only [R4.mk.injEq] at hd
                obtain ⟨rfl, rfl, rfl, rfl⟩ := hd
                go_wp2_with fail
                go_meet
                exact ⟨rfl, rfl⟩
    case rest =>
      obtain ⟨rfl, rfl⟩ := hcut
      cases k1
      · go_wp2_with fail
        go_ret
        refine ⟨rfl, ?_⟩
        repeat' (first | (with_reducible assumption) | (with_reducible exact Below.refl _ _) | (with_reducible refine Below.alloc ?_ ?_ _) | (with_reducible refine Below.drew ?_) | (with_reducible refine Below.setCell ?_ ?_ _) | (with_reducible refine Kp.belowA (by with_reducible assumption) ?_ ?_) | (with_reducible refine chain ?_ (by with_reducible assumption) ?_) | omega | (simp; done) | (simp; omega))
      · obtain ⟨vx, vy, vz, _⟩ := mv_ok HQ1.out
        have HVX := hid (show vr a b c d = true from vx)
        have HVY := hid (show vr p q r s = true from vy)
        have HVZ := hid (show vr A1 B1 C1 D1 = true from vz)
        have HQ7 := hid (show mv ⟨a, -d, -c, -b⟩ ⟨p, -s, -r, -q⟩ = (⟨A1, -D1, -C1, -B1⟩, true) from mv_cj HQ1.out)
        have HQ8 := hid (show mv ⟨a, -b, c, -d⟩ ⟨p, -q, r, -s⟩ = (⟨A1, -B1, C1, -D1⟩, true) from mv_bl HQ1.out)
        clear vx vy vz
        obtain ⟨cx0, cx1, cx2, cx3, fx0, fx1, fx2, fx3⟩ := id x_10
        obtain ⟨cxy0, cxy1, cxy2, cxy3, fxy0, fxy1, fxy2, fxy3⟩ := id xy_10
        go_wp2_with (first
          | (go_at_call 23; ((with_reducible refine (conj_i_t a b c d _ HVX.out).mono ?_); rintro ee w11 ⟨rfl, hb11⟩; have hs11 := hb11.size; (try simp at hs11); have x_11 := ((x_10).al).mono hb11; have y_11 := ((y_10).al).mono hb11; have xy_11 := ((xy_10).al).mono hb11; have hl_y_11 := y_11.lt; obtain ⟨cy0, cy1, cy2, cy3, fy0, fy1, fy2, fy3⟩ := id y_11))
          | (go_at_call 23; ((with_reducible refine (conj_i_t p q r s _ HVY.out).mono ?_); rintro ee w12 ⟨rfl, hb12⟩; have hs12 := hb12.size; (try simp at hs12); have x_12 := ((x_11).al).mono hb12; have y_12 := ((y_11).al).mono hb12; have xy_12 := ((xy_11).al).mono hb12; have cx_12 := (C4.ofg (W := w11) (g := w11.heap.size) (a) (-d) (-c) (-b) 25 (by simp)).mono hb12; have hl_cx_12 := cx_12.lt; obtain ⟨ccx0, ccx1, ccx2, ccx3, fcx0, fcx1, fcx2, fcx3⟩ := id cx_12))
          | (go_at_call 20; ((with_reducible refine (mul_d a (-d) (-c) (-b) p (-s) (-r) (-q) A1 (-D1) (-C1) (-B1) true _ HQ7.out).mono ?_); rintro ee w13 ⟨rfl, hb13⟩; have hs13 := hb13.size; (try simp at hs13); have x_13 := ((x_12).al).mono hb13; have y_13 := ((y_12).al).mono hb13; have xy_13 := ((xy_12).al).mono hb13; have cx_13 := ((cx_12).al).mono hb13; have cy_13 := (C4.ofg (W := w12) (g := w12.heap.size) (p) (-s) (-r) (-q) 25 (by simp)).mono hb13; have hl_xy_13 := xy_13.lt; obtain ⟨cxy0, cxy1, cxy2, cxy3, fxy0, fxy1, fxy2, fxy3⟩ := id xy_13))
          | (go_at_call 23; ((with_reducible refine (conj_i_t A1 B1 C1 D1 _ HVZ.out).mono ?_); rintro ee w14 ⟨rfl, hb14⟩; have hs14 := hb14.size; (try simp at hs14); have x_14 := ((x_13).al).mono hb14; have y_14 := ((y_13).al).mono hb14; have xy_14 := ((xy_13).al).mono hb14; have cp_14 := (C4.ofg (W := w13) (g := w13.heap.size) (A1) (-D1) (-C1) (-B1) 25 (by simp)).mono hb14; have hl_x_14 := x_14.lt; obtain ⟨cx0, cx1, cx2, cx3, fx0, fx1, fx2, fx3⟩ := id x_14))
          | (go_at_call 24; ((with_reducible refine (bul_i_t a b c d _ HVX.out).mono ?_); rintro ee w15 ⟨rfl, hb15⟩; have hs15 := hb15.size; (try simp at hs15); have x_15 := ((x_14).al).mono hb15; have y_15 := ((y_14).al).mono hb15; have xy_15 := ((xy_14).al).mono hb15; have cp_15 := ((cp_14).al).mono hb15; have cq_15 := (C4.ofg (W := w14) (g := w14.heap.size) (A1) (-D1) (-C1) (-B1) 25 (by simp)).mono hb15; have hl_y_15 := y_15.lt; obtain ⟨cy0, cy1, cy2, cy3, fy0, fy1, fy2, fy3⟩ := id y_15))
          | (go_at_call 24; ((with_reducible refine (bul_i_t p q r s _ HVY.out).mono ?_); rintro ee w16 ⟨rfl, hb16⟩; have hs16 := hb16.size; (try simp at hs16); have x_16 := ((x_15).al).mono hb16; have y_16 := ((y_15).al).mono hb16; have xy_16 := ((xy_15).al).mono hb16; have cp_16 := ((cp_15).al).mono hb16; have cq_16 := ((cq_15).al).mono hb16; have bx_16 := (C4.ofg (W := w15) (g := w15.heap.size) (a) (-b) (c) (-d) 25 (by simp)).mono hb16; have hl_bx_16 := bx_16.lt; obtain ⟨cbx0, cbx1, cbx2, cbx3, fbx0, fbx1, fbx2, fbx3⟩ := id bx_16))
          | (go_at_call 20; ((with_reducible refine (mul_d a (-b) c (-d) p (-q) r (-s) A1 (-B1) C1 (-D1) true _ HQ8.out).mono ?_); rintro ee w17 ⟨rfl, hb17⟩; have hs17 := hb17.size; (try simp at hs17); have x_17 := ((x_16).al).mono hb17; have y_17 := ((y_16).al).mono hb17; have xy_17 := ((xy_16).al).mono hb17; have cp_17 := ((cp_16).al).mono hb17; have cq_17 := ((cq_16).al).mono hb17; have bx_17 := ((bx_16).al).mono hb17; have by_17 := (C4.ofg (W := w16) (g := w16.heap.size) (p) (-q) (r) (-s) 25 (by simp)).mono hb17; have hl_xy_17 := xy_17.lt; obtain ⟨cxy0, cxy1, cxy2, cxy3, fxy0, fxy1, fxy2, fxy3⟩ := id xy_17))
          | (go_at_call 24; ((with_reducible refine (bul_i_t A1 B1 C1 D1 _ HVZ.out).mono ?_); rintro ee w18 ⟨rfl, hb18⟩; have hs18 := hb18.size; (try simp at hs18); have x_18 := ((x_17).al).mono hb18; have y_18 := ((y_17).al).mono hb18; have xy_18 := ((xy_17).al).mono hb18; have cp_18 := ((cp_17).al).mono hb18; have cq_18 := ((cq_17).al).mono hb18; have bx_18 := ((bx_17).al).mono hb18; have by_18 := ((by_17).al).mono hb18; have bp_18 := (C4.ofg (W := w17) (g := w17.heap.size) (A1) (-B1) (C1) (-D1) 25 (by simp)).mono hb18; have hl_cp_18 := cp_18.lt; obtain ⟨ccp0, ccp1, ccp2, ccp3, fcp0, fcp1, fcp2, fcp3⟩ := id cp_18; have hl_cq_18 := cq_18.lt; obtain ⟨ccq0, ccq1, ccq2, ccq3, fcq0, fcq1, fcq2, fcq3⟩ := id cq_18; have hl_bp_18 := bp_18.lt; obtain ⟨cbp0, cbp1, cbp2, cbp3, fbp0, fbp1, fbp2, fbp3⟩ := id bp_18)))
        go_ret
        refine ⟨rfl, ?_⟩
        repeat' (first | (with_reducible assumption) | (with_reducible exact Below.refl _ _) | (with_reducible refine Below.alloc ?_ ?_ _) | (with_reducible refine Below.drew ?_) | (with_reducible refine Below.setCell ?_ ?_ _) | (with_reducible refine Kp.belowA (by with_reducible assumption) ?_ ?_) | (with_reducible refine chain ?_ (by with_reducible assumption) ?_) | omega | (simp; done) | (simp; omega))
end Go.Proofs.Ytefmglofnoinmaa
