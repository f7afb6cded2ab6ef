/- The law on norms, quotients and roots of drawn numbers of the ring. -/
import Derived.Test.YtefmglofnoinmaaNrmFn
import Derived.Test.YtefmglofnoinmaaDrawF
import Derived.Deep.LoopGhost
import Derived.Test.YtefmglofnoinmaaHeldB
import Derived.Deep.RegionHeld3
import Derived.Deep.MidRow
import Derived.Deep.DeepCutAuto
import Derived.Deep.RegionWith
import Derived.Deep.DeepCutAuto
namespace Go.Proofs.Ytefmglofnoinmaa
open Go.RowKit RM
set_option linter.unusedVariables false
set_option linter.unusedSimpArgs false
attribute [local irreducible] World.setCell

set_option maxRecDepth 100000 in
set_option maxHeartbeats 16000000 in
theorem fnRingNorms_walk {A B : Option Addr} {len cap len2 cap2 : Nat} {w : World} (hA : Bs w A len) (hB : Bs w B len2) :
    Calls Try.prog 4 #[.slice A len cap, .slice B len2 cap2] w fun ee w' => ee = .returned (.bool true) ∧ Below w.heap.size w w' := by
  have HA := hid hA
  have HB := hid hB
  have HLA := hid hA.le
  have HLB := hid hB.le
  clear hA hB
  go_enter Try.func4, Try.ntmps4
  go_upto_region 8 with (first
    | (go_at_call 17; ((with_reducible refine (big_any _ HLA.out HLB.out).mono ?_); rintro ee w1 ⟨v0, rfl, hb1⟩; have hs1 := hb1.size; (try simp at hs1)))
    | (go_at_call 25; ((with_reducible refine (dDiv (HA.out.below hb1)).mono ?_); rintro ee w2 ⟨a, b, c, d, p, q, r, s, rfl, hb2⟩; have hs2 := hb2.size; (try simp at hs2); rcases hq1 : mv ⟨a, b, c, d⟩ ⟨p, q, r, s⟩ with ⟨⟨A1, B1, C1, D1⟩, k1⟩; obtain ⟨ux, vx, o1, ax, sx, bux, bvx, px, nx⟩ := abs_all a b c d; obtain ⟨uy, vy, o2, ay, sy, buy, bvy, py, ny⟩ := abs_all p q r s; obtain ⟨us, vs, o3, az, sz, bus, bvs, pz, mz⟩ := abs_all A1 B1 C1 D1; clear sx nx sy ny sz mz; obtain ⟨z0, z1, z2, z3, k4, dv, pd⟩ := div_all A1 B1 C1 D1 p q r s; have HQ1 := hid hq1; clear hq1; have AX := hid ax; clear ax; have AY := hid ay; clear ay; have AZ := hid az; clear az; have PX := hid px; clear px; have PY := hid py; clear py; have PZ := hid pz; clear pz; have DV := hid dv; clear dv; have PD := hid pd; clear pd; have BUX := hid bux; clear bux; have BVX := hid bvx; clear bvx; have BUY := hid buy; clear buy; have BVY := hid bvy; clear bvy; have BUS := hid bus; clear bus; have BVS := hid bvs; clear bvs))
    | (go_at_call 20; ((with_reducible refine (mul_d a b c d p q r s A1 B1 C1 D1 _ _ HQ1.out).mono ?_); rintro ee w3 ⟨rfl, hb3⟩; have hs3 := hb3.size; (try simp at hs3); have x_3 := ((C4.ofg (W := w2) (g := w2.heap.size) (a) (b) (c) (d) 25 (by simp)).al).mono hb3; have y_3 := (C4.ofg (W := (w2.alloc (.cells #[.int .i64 (a), .int .i64 (b), .int .i64 (c), .int .i64 (d)] 25))) (g := w2.heap.size + 1) (p) (q) (r) (s) 25 (by simp)).mono hb3; have hl_x_3 := x_3.lt; obtain ⟨cx0, cx1, cx2, cx3, fx0, fx1, fx2, fx3⟩ := id x_3; have hl_y_3 := y_3.lt; obtain ⟨cy0, cy1, cy2, cy3, fy0, fy1, fy2, fy3⟩ := id y_3))
    | (go_at_call 26; ((with_reducible refine (AX.out _).mono ?_); rintro ee w4 ⟨rfl, hb4⟩; have hs4 := hb4.size; (try simp at hs4); have x_4 := ((x_3).al).mono hb4; have y_4 := ((y_3).al).mono hb4; have xy_4 := (C4.ofg (W := w3) (g := w3.heap.size) (A1) (B1) (C1) (D1) 25 (by simp)).mono hb4; have hl_y_4 := y_4.lt; obtain ⟨cy0, cy1, cy2, cy3, fy0, fy1, fy2, fy3⟩ := id y_4; have hl_xy_4 := xy_4.lt; obtain ⟨cxy0, cxy1, cxy2, cxy3, fxy0, fxy1, fxy2, fxy3⟩ := id xy_4))
    | (go_at_call 26; ((with_reducible refine (AY.out _).mono ?_); rintro ee w5 ⟨rfl, hb5⟩; have hs5 := hb5.size; (try simp at hs5); have x_5 := (x_4).mono hb5; have y_5 := (y_4).mono hb5; have xy_5 := (xy_4).mono hb5; have hl_xy_5 := xy_5.lt; obtain ⟨cxy0, cxy1, cxy2, cxy3, fxy0, fxy1, fxy2, fxy3⟩ := id xy_5))
    | (go_at_call 26; ((with_reducible refine (AZ.out _).mono ?_); rintro ee w6 ⟨rfl, hb6⟩; have hs6 := hb6.size; (try simp at hs6); have x_6 := (x_5).mono hb6; have y_6 := (y_5).mono hb6; have xy_6 := (xy_5).mono hb6; have hl_x_6 := x_6.lt; obtain ⟨cx0, cx1, cx2, cx3, fx0, fx1, fx2, fx3⟩ := id x_6)))
  · go_ret
    refine ⟨rfl, ?_⟩
    repeat' (first | (with_reducible assumption) | (with_reducible exact Below.refl _ _) | (with_reducible refine Below.alloc ?_ ?_ _) | (with_reducible refine Below.drew ?_) | (with_reducible refine Below.setCell ?_ ?_ _) | (with_reducible refine Kp.belowA (by with_reducible assumption) ?_ ?_) | (with_reducible refine chain ?_ (by with_reducible assumption) ?_) | omega | (simp; done) | (simp; omega))
  · go_cut [93] (fun s wx => s = .bool false ∧ wx = w6)
    case first =>
      cases k1
      · go_wp2_with fail
        go_meet
        exact ⟨rfl, rfl⟩
      · cases o1
        · go_wp2_with fail
          go_meet
          exact ⟨rfl, rfl⟩
        · cases o2
          · go_wp2_with fail
            go_meet
            exact ⟨rfl, rfl⟩
          · cases o3
            · go_wp2_with fail
              go_meet
              exact ⟨rfl, rfl⟩
            · obtain ⟨_, e1, e2⟩ := PX.out rfl
              obtain ⟨_, e3, e4⟩ := PY.out rfl
              obtain ⟨_, e5, e6⟩ := PZ.out rfl
              have heq := (mv_ok HQ1.out).2.2.2
              have t1 := uu_mul ⟨a, b, c, d⟩ ⟨p, q, r, s⟩
              have t2 := vv_mul ⟨a, b, c, d⟩ ⟨p, q, r, s⟩
              rw [← heq] at t1 t2
              have hr : us = ux * uy + 2 * vx * vy := by rw [e5, e1, e3, e2, e4]; exact t1
              have hs : vs = ux * vy + vx * uy := by rw [e6, e1, e3, e2, e4]; exact t2
              clear t1 t2 e1 e2 e3 e4 e5 e6 heq
              subst hr hs
              obtain ⟨m1, m2⟩ := mul_bd BUX.out BUY.out
              obtain ⟨m3, m4⟩ := mul_bd BVX.out BVY.out
              obtain ⟨m5, m6⟩ := mul_bd BUX.out BVY.out
              obtain ⟨m7, m8⟩ := mul_bd BVX.out BUY.out
              have ea : 2 * vx * vy = 2 * (vx * vy) := Int.mul_assoc _ _ _
              have m9 : -2000000000000000000 ≤ 2 * vx * vy := by omega
              have ma : 2 * vx * vy ≤ 2000000000000000000 := by omega
              clear ea m3 m4
              obtain ⟨q1, q2⟩ := BVX.out
              go_wp2_with fail
              go_meet
              exact ⟨rfl, rfl⟩
    case rest =>
      obtain ⟨rfl, rfl⟩ := hcut
      obtain ⟨cxy0, cxy1, cxy2, cxy3, fxy0, fxy1, fxy2, fxy3⟩ := id xy_6
      obtain ⟨cy0, cy1, cy2, cy3, fy0, fy1, fy2, fy3⟩ := id y_6
      go_upto_region 11 with (first
        | (go_at_call 27; ((with_reducible refine (DV.out _).mono ?_); rintro ee w7 ⟨rfl, hb7⟩; have hs7 := hb7.size; (try simp at hs7); have x_7 := (x_6).mono hb7; have y_7 := (y_6).mono hb7; have xy_7 := (xy_6).mono hb7; have hl_x_7 := x_7.lt; obtain ⟨cx0, cx1, cx2, cx3, fx0, fx1, fx2, fx3⟩ := id x_7)))
      go_cut [108] (fun s wx => s = .bool false ∧ wx = w7.alloc (.cells #[.int .i64 (z0), .int .i64 (z1), .int .i64 (z2), .int .i64 (z3)] 25))
      case first =>
        cases k1
        · go_wp2_with fail
          go_meet
          exact ⟨rfl, rfl⟩
        · cases k4
          · go_wp2_with fail
            go_meet
            exact ⟨rfl, rfl⟩
          · obtain ⟨hn, hz⟩ := PD.out rfl
            have heq := (mv_ok HQ1.out).2.2.2
            rw [heq] at hz
            have hzz := div_eq (x := ⟨a, b, c, d⟩) (y := ⟨p, q, r, s⟩) (z := ⟨z0, z1, z2, z3⟩) hn hz
            simp only [R4.mk.injEq] at hzz
            clear hn hz heq
            obtain ⟨rfl, rfl, rfl, rfl⟩ := hzz
            go_wp2_with fail
            go_meet
            exact ⟨rfl, rfl⟩
      case rest =>
        obtain ⟨rfl, rfl⟩ := hcut
        go_upto_region 16 with (first
          | (go_at_call 28; ((with_reducible refine (dRoot (((((((((((HB.out.below hb1).below hb2).alloc _).alloc _).below hb3).alloc _).below hb4).below hb5).below hb6).below hb7).alloc _)).mono ?_); rintro ee w8 ⟨t, u, v, l, rfl, hb8⟩; have hs8 := hb8.size; (try simp at hs8); obtain ⟨E1, F1, G1, H1, k5, ro, E2, F2, G2, H2, k6, rd, pr⟩ := root_all t u v l; obtain ⟨nn, k7, ni, ns, nz⟩ := norm_all t u v l; have RO := hid ro; clear ro; have RD := hid rd; clear rd; have PR := hid pr; clear pr; have NI := hid ni; clear ni; have NS := hid ns; clear ns))
          | (go_at_call 29; ((with_reducible refine (RO.out _).mono ?_); rintro ee w9 ⟨rfl, hb9⟩; have hs9 := hb9.size; (try simp at hs9); have wv_9 := (C4.ofg (W := w8) (g := w8.heap.size) (t) (u) (v) (l) 25 (by simp)).mono hb9; have hl_wv_9 := wv_9.lt; obtain ⟨cwv0, cwv1, cwv2, cwv3, fwv0, fwv1, fwv2, fwv3⟩ := id wv_9))
          | (go_at_call 30; ((with_reducible refine (RD.out _).mono ?_); rintro ee w10 ⟨rfl, hb10⟩; have hs10 := hb10.size; (try simp at hs10); have wv_10 := ((wv_9).al).mono hb10; have up_10 := (C4.ofg (W := w9) (g := w9.heap.size) (E1) (F1) (G1) (H1) 25 (by simp)).mono hb10; have hl_wv_10 := wv_10.lt; obtain ⟨cwv0, cwv1, cwv2, cwv3, fwv0, fwv1, fwv2, fwv3⟩ := id wv_10)))
        obtain ⟨cwv0, cwv1, cwv2, cwv3, fwv0, fwv1, fwv2, fwv3⟩ := id wv_10
        have hlwv := wv_10.lt
        cases k5
        · go_wp2_with (first
            | (go_at_call 31; ((with_reducible refine (NI.out _).mono ?_); rintro ee w11 ⟨rfl, hb11⟩; have hs11 := hb11.size; (try simp at hs11); have wv_11 := ((wv_10).al).mono hb11; have hl_wv_11 := wv_11.lt; obtain ⟨cwv0, cwv1, cwv2, cwv3, fwv0, fwv1, fwv2, fwv3⟩ := id wv_11))
            | (go_at_call 32; ((with_reducible refine (NS.out _).mono ?_); rintro ee w12 ⟨rfl, hb12⟩; have hs12 := hb12.size; (try simp at hs12); have wv_12 := (wv_11).mono hb12)))
          go_ret
          refine ⟨by simp, ?_⟩
          repeat' (first | (with_reducible assumption) | (with_reducible exact Below.refl _ _) | (with_reducible refine Below.alloc ?_ ?_ _) | (with_reducible refine Below.drew ?_) | (with_reducible refine Below.setCell ?_ ?_ _) | (with_reducible refine Kp.belowA (by with_reducible assumption) ?_ ?_) | (with_reducible refine chain ?_ (by with_reducible assumption) ?_) | omega | (simp; done) | (simp; omega))
        · obtain ⟨rfl, rfl, rfl, rfl, rfl⟩ := PR.out rfl
          go_wp2_with (first
            | (go_at_call 31; ((with_reducible refine (NI.out _).mono ?_); rintro ee w11 ⟨rfl, hb11⟩; have hs11 := hb11.size; (try simp at hs11); have wv_11 := ((wv_10).al).mono hb11; have hl_wv_11 := wv_11.lt; obtain ⟨cwv0, cwv1, cwv2, cwv3, fwv0, fwv1, fwv2, fwv3⟩ := id wv_11))
            | (go_at_call 32; ((with_reducible refine (NS.out _).mono ?_); rintro ee w12 ⟨rfl, hb12⟩; have hs12 := hb12.size; (try simp at hs12); have wv_12 := (wv_11).mono hb12)))
          go_ret
          refine ⟨by simp, ?_⟩
          repeat' (first | (with_reducible assumption) | (with_reducible exact Below.refl _ _) | (with_reducible refine Below.alloc ?_ ?_ _) | (with_reducible refine Below.drew ?_) | (with_reducible refine Below.setCell ?_ ?_ _) | (with_reducible refine Kp.belowA (by with_reducible assumption) ?_ ?_) | (with_reducible refine chain ?_ (by with_reducible assumption) ?_) | omega | (simp; done) | (simp; omega))
end Go.Proofs.Ytefmglofnoinmaa
