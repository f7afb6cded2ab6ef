/- Validity of tableaux: the program. -/
import Derived.Test.YtjedpeoafpljhaaPtv
import Derived.Test.YtjedpeoafpljhaaPv
import Derived.Deep.DeepCutAuto
namespace Go.Proofs.Ytjedpeoafpljhaa.C4
open Go.RowKit
set_option linter.unusedVariables false
set_option linter.unusedSimpArgs false
attribute [local irreducible] World.setCell

set_option maxRecDepth 100000 in
set_option maxHeartbeats 16000000 in
theorem ivt_m {n g h c1 c2 : Nat} {xs zs : List PauliV} {t : Bool} {w : World} (q1 : 1 ≤ n) (q5 : n ≤ 5) (ht : t = true ↔ okU n (xs ++ zs) (n + n)) (hA : Rd pauliE w (some ⟨g, 0, none⟩) xs) (hB : Rd pauliE w (some ⟨h, 0, none⟩) zs) (hn : xs.length = n) (hm : zs.length = n) :
    Calls Try.prog 100 #[tableauV (n : Int) (some ⟨g, 0, none⟩) n c1 (some ⟨h, 0, none⟩) n c2] w fun ee w' => ee = .returned (.bool t) ∧ Below w.heap.size w w' := by
  obtain ⟨i0, hi0, iz0, iz1, iz2⟩ := info_parts infoPauli
  have HQ := lay (inB_t (x := (n : Int)) (lo := 1) (hi := 5) (by omega) (by omega))
  have hgw : g < w.heap.size := by
    obtain ⟨x, hx⟩ : ∃ x, xs[0]? = some x := ⟨_, List.getElem?_eq_getElem (by omega)⟩
    obtain ⟨g', o', e, hl, -⟩ := hA.atPauli hx
    cases e; exact hl
  have hhw : h < w.heap.size := by
    obtain ⟨x, hx⟩ : ∃ x, zs[0]? = some x := ⟨_, List.getElem?_eq_getElem (by omega)⟩
    obtain ⟨g', o', e, hl, -⟩ := hB.atPauli hx
    cases e; exact hl
  have hll : (xs ++ zs).length = n + n := by rw [List.length_append, hn, hm]
  have HLL := lay hll
  have HT := lay ht
  have HA := lay hA
  have HB := lay hB
  have HN := lay hn
  have HM := lay hm
  clear hll ht hA hB hn hm
  go_enter Try.func100, Try.ntmps100
  go_wp2_with (fail)
  refine (iqc HQ.out _).mono ?_
  rintro ee w1 ⟨rfl, rfl⟩
  go_wp2_with (fail)
  obtain ⟨W1, hW1⟩ : ∃ W : World, W = (w.alloc (.cells #[.int .i64 (n : Int), .slice (some ⟨g, 0, none⟩) n c1, .slice (some ⟨h, 0, none⟩) n c2] 53)).alloc (.cells #[.slice (some ⟨g, 0, none⟩) n c1, .slice (some ⟨h, 0, none⟩) n c2] 51) := ⟨_, rfl⟩
  have hbW : Below w.heap.size w W1 := by rw [hW1]; (repeat' (first | (with_reducible exact Below.refl _ _) | (with_reducible assumption) | (with_reducible refine Below.alloc ?_ ?_ _) | (with_reducible refine Below.drew ?_) | (with_reducible refine bdN ?_ _) | (with_reducible refine Below.setCell ?_ ?_ _) | (with_reducible refine chn ?_ (by assumption) ?_) | omega | (simp; done) | (simp; omega)))
  have XaW : Bb W1 (w.heap.size) 53 #[.int .i64 (n : Int), .slice (some ⟨g, 0, none⟩) n c1, .slice (some ⟨h, 0, none⟩) n c2] := by rw [hW1]; exact Bb.alloc (Bb.new rfl) _
  have XbW : Bb W1 (w.heap.size + 1) 51 #[.slice (some ⟨g, 0, none⟩) n c1, .slice (some ⟨h, 0, none⟩) n c2] := by rw [hW1]; exact Bb.new (by simp)
  rw [← hW1]
  clear hW1
  have hWs := hbW.size
  refine (pcat_p (b := w.heap.size + 1) (xs := xs) (ys := zs) (XbW.c 0 rfl) (XbW.c 1 rfl) ?_ ?_ HN.out HM.out (by omega) (by omega)).mono ?_
  · exact (HA.out.at_ (fun a ha => by cases ha; exact hbW.block g hgw))
  · exact (HB.out.at_ (fun a ha => by cases ha; exact hbW.block h hhw))
  rintro ee w2 ⟨A, cp, rfl, hcp, hcm, hO, hb2⟩
  have hWl : w.heap.size + 1 < W1.heap.size := XbW.lt
  clear XbW
  have hz2 := hb2.size
  (try simp only [World.size_alloc] at hz2)
  have Xa : Hid (Bb w2 (w.heap.size) 53 #[.int .i64 (n : Int), .slice (some ⟨g, 0, none⟩) n c1, .slice (some ⟨h, 0, none⟩) n c2]) := XaW.mono hb2
  have hB2 : Below w.heap.size w w2 := chn hbW hb2 hbW.size
  clear XaW hbW
  obtain ⟨g2, rfl, hBs⟩ : ∃ g2, A = some ⟨g2, 0, none⟩ ∧ Bs pauliE w2 g2 43 (xs ++ zs) := by
    rcases hO with ⟨e, -⟩ | ⟨g2, e, -, hBs⟩
    · have := HLL.out; rw [e] at this; simp at this; omega
    · exact ⟨g2, e, hBs⟩
  have HBS := lay hBs
  rw [HLL.out] at hcp
  rw [HLL.out]
  obtain ⟨ys, hys⟩ : ∃ ys, ys = xs ++ zs := ⟨_, rfl⟩
  rw [← hys] at HBS HLL HT
  obtain ⟨N, hN⟩ : ∃ N, N = n + n := ⟨_, rfl⟩
  rw [← hN] at hcp HLL HT
  rw [← hN]
  have hN1 : 2 ≤ N := by omega
  have hN2 : N ≤ 10 := by omega
  have hcp2 : cp ≤ 9223372036854775807 := by unfold maxLen at hcm; omega
  clear hb2 hO hBs hys hN HA HB HN HM hcm
  have ca0 := Xa.out.c 0 rfl
  have ca1 := Xa.out.c 1 rfl
  have ca2 := Xa.out.c 2 rfl
  have la := Xa.out.lt
  go_wp2_with (fail)
  go_loopg [36] N (fun k s1 wr => ∃ i : Nat, i + k = N ∧ s1 = .int .i64 (i : Int) ∧ Hid (okU n ys i) ∧ Below w2.heap.size w2 wr)
  case atStart => exact ⟨0, by omega, rfl, okU_0 _ _, by (repeat' (first | (with_reducible exact Below.refl _ _) | (with_reducible assumption) | (with_reducible refine Below.alloc ?_ ?_ _) | (with_reducible refine Below.drew ?_) | (with_reducible refine bdN ?_ _) | (with_reducible refine Below.setCell ?_ ?_ _) | (with_reducible refine chn ?_ (by assumption) ?_) | omega | (simp; done) | (simp; omega)))⟩
  case round =>
    obtain ⟨i, hi, rfl, HU, hR⟩ := hrel
    obtain ⟨wo, rfl⟩ : ∃ wo, wo = wr := ⟨_, rfl⟩
    have hRz := hR.size
    have Xr := lay (Xa.out.below hR Xa.out.lt)
    clear ca0 ca1 ca2 la
    have ca0 := Xr.out.c 0 rfl
    have ca1 := Xr.out.c 1 rfl
    have ca2 := Xr.out.c 2 rfl
    have la := Xr.out.lt
    cases gk with
    | zero =>
      obtain rfl : N = i := by omega
      have HH : Hid (true = t) := (HT.out.2 HU.out).symm
      go_wp2_with (fail)
      go_ret
      refine ⟨ret_bool HH.out, ?_⟩
      exact chn hB2 hR hB2.size
    | succ m =>
      have hlt : i < N := by omega
      have il : (i : Int) < (N : Int) := by omega
      obtain ⟨x, hx⟩ : ∃ x, ys[i]? = some x := ⟨_, List.getElem?_eq_getElem (by rw [HLL.out]; exact hlt)⟩
      have hgl := HBS.out.lt
      obtain ⟨q0, q1', q2⟩ := Bs.atPauli (HBS.out.at_ (hR.block g2 hgl)) hx
      have HX := lay hx
      clear hx
      cases hk : pB (n : Int) x
      · have HK := lay hk
        have HH : Hid (false = t) := tF HT.out (fun h => by have := (h i x hlt HX.out).1; rw [HK.out] at this; cases this)
        clear hk
        go_wp2_with ((go_at_call 73; ((with_reducible refine (ivp (x := x) HK.out _).mono ?_); rintro ee w4 ⟨rfl, hb4⟩; obtain ⟨hc4, hf4, _⟩ := bcl hb4; have hz4 := hb4.size; (try simp at hz4); (try have hx40 : wo.heap.size < w4.heap.size := (by omega)); (try have hx41 : wo.heap.size + 1 < w4.heap.size := (by omega)); (try have hx42 : wo.heap.size + 1 + 1 < w4.heap.size := (by omega)); (try have hx43 : wo.heap.size + 1 + 1 + 1 < w4.heap.size := (by omega)))))
        go_ret
        refine ⟨ret_bool HH.out, ?_⟩
        have hBr := chn hB2 hR hB2.size
        (repeat' (first | (with_reducible exact Below.refl _ _) | (with_reducible assumption) | (with_reducible refine Below.alloc ?_ ?_ _) | (with_reducible refine Below.drew ?_) | (with_reducible refine bdN ?_ _) | (with_reducible refine Below.setCell ?_ ?_ _) | (with_reducible refine chn ?_ (by assumption) ?_) | omega | (simp; done) | (simp; omega)))
      · have HK := lay hk
        obtain ⟨k', p, a, b, hkn, -, -, rfl, hp3, ha, hb⟩ := pB_nat hk
        obtain rfl : n = k' := by omega
        clear hk hkn
        obtain ⟨u, hu⟩ : ∃ u, u = p % 2 := ⟨_, rfl⟩
        have e4 : ((p : Int)).tmod 2 = (u : Int) := by rw [Int.tmod_eq_emod_of_nonneg (by omega)]; omega
        have e5 : (p : Int) % 2 = (u : Int) := by omega
        have hu2 : u = 0 ∨ u = 1 := by omega
        rcases hu2 with hu0 | hu1
        · subst hu0
          have ev : Hid (((pv p a b).f0) % 2 = 0) := by show ((p : Int)) % 2 = 0; omega
          clear hu
          have hic : i ≤ cp := by omega
          have hic2 : (i : Int) ≤ (cp : Int) := by omega
          go_wp2_with ((go_at_call 73; ((with_reducible refine (ivp (x := pv p a b) HK.out _).mono ?_); rintro ee w4 ⟨rfl, hb4⟩; obtain ⟨hc4, hf4, _⟩ := bcl hb4; have hz4 := hb4.size; (try simp at hz4); (try have hx40 : wo.heap.size < w4.heap.size := (by omega)); (try have hx41 : wo.heap.size + 1 < w4.heap.size := (by omega)); (try have hx42 : wo.heap.size + 1 + 1 < w4.heap.size := (by omega)); (try have hx43 : wo.heap.size + 1 + 1 + 1 < w4.heap.size := (by omega)))))
          have hR4 : Below w2.heap.size w2 w4 := chn (hR.alloc (by omega) _) hb4 (by simp only [World.size_alloc]; omega)
          have XA4 : Bb w4 (wo.heap.size) 43 #[.int .i64 (p : Int), .int .i64 (a : Int), .int .i64 (b : Int)] := Bb.mono (Bb.new rfl) hb4
          clear hc4 hf4 hb4 q0 q1' q2 ca0 ca1 ca2 la
          go_wp2_with (fail)
          go_loopg [55] i (fun k s2 wr => ∃ j : Nat, j + k = i ∧ s2 = .int .i64 (j : Int) ∧ Hid (okJ n ys i (pv p a b) j) ∧ Hid (Bb wr (wo.heap.size) 43 #[.int .i64 (p : Int), .int .i64 (a : Int), .int .i64 (b : Int)]) ∧ Below w2.heap.size w2 wr)
          case atStart => exact ⟨0, by omega, rfl, fun k y hk => absurd hk (Nat.not_lt_zero k), XA4, hR4⟩
          case round =>
            obtain ⟨j, hj, rfl, HJ, XA, hI⟩ := hrel
            have hIs := hI.size
            have Xi := lay (Xa.out.below hI Xa.out.lt)
            have ca0 := Xi.out.c 0 rfl
            have ca1 := Xi.out.c 1 rfl
            have ca2 := Xi.out.c 2 rfl
            have la := Xi.out.lt
            have cx0 := XA.out.c 0 rfl
            have cx1 := XA.out.c 1 rfl
            have cx2 := XA.out.c 2 rfl
            have lx := XA.out.lt
            cases gk with
            | zero =>
              obtain rfl : i = j := by omega
              go_wp2_with (fail)
              go_roundg m
              case measure => omega
              case rel => exact ⟨i + 1, by omega, by go_num, okU_s HU.out HX.out ⟨HK.out, ev.out, HJ.out⟩, hI⟩
            | succ m2 =>
              have hjt : j < i := by omega
              have jl : (j : Int) < (i : Int) := by omega
              obtain ⟨y, hy⟩ : ∃ y, ys[j]? = some y := ⟨_, List.getElem?_eq_getElem (by rw [HLL.out]; omega)⟩
              obtain ⟨k2, p2, a2, b2, hk2, -, -, rfl, hp2, ha2, hb2⟩ := pB_nat (HU.out j y hjt hy).1
              obtain rfl : n = k2 := by omega
              obtain ⟨y0, y1, y2⟩ := Bs.atPauli (HBS.out.at_ (hI.block g2 hgl)) hy
              have HY := lay hy
              clear hy hk2
              obtain ⟨c, hc⟩ : ∃ c, acB a b a2 b2 = c := ⟨_, rfl⟩
              have HC := lay hc
              have HCC : Hid (cAt (pv p a b) (pv p2 a2 b2) = c) := hc
              clear hc
              by_cases hd : (i : Int) - (j : Int) = (n : Int)
              · cases c
                · have HH : Hid (false = t) := tF HT.out (fun h => by have h9 := (h i _ hlt HX.out).2.2 j _ hjt HY.out; rw [HCC.out, decide_eq_true hd] at h9; cases h9)
                  go_upto_region 14 with ((go_at_call 148; ((with_reducible refine (acm (pa := (p : Int)) (pb := (p2 : Int)) (p32 q5 ha) (p32 q5 hb) (p32 q5 ha2) (p32 q5 hb2) HC.out _).mono ?_); rintro ee w6 ⟨rfl, hb6⟩; obtain ⟨hc6, hf6, _⟩ := bcl hb6; have hz6 := hb6.size; (try simp at hz6); (try have hx60 : wr.heap.size < w6.heap.size := (by omega)); (try have hx61 : wr.heap.size + 1 < w6.heap.size := (by omega)); (try have hx62 : wr.heap.size + 1 + 1 < w6.heap.size := (by omega)); (try have hx63 : wr.heap.size + 1 + 1 + 1 < w6.heap.size := (by omega)))))
                  go_cut [2] (fun s2 wx => s2 = .bool false ∧ Below w.heap.size w wx)
                  case first =>
                    go_wp2_with (fail)
                    go_meet
                    refine ⟨rfl, ?_⟩
                    have hBr := chn hB2 hI hB2.size
                    (repeat' (first | (with_reducible exact Below.refl _ _) | (with_reducible assumption) | (with_reducible refine Below.alloc ?_ ?_ _) | (with_reducible refine Below.drew ?_) | (with_reducible refine bdN ?_ _) | (with_reducible refine Below.setCell ?_ ?_ _) | (with_reducible refine chn ?_ (by assumption) ?_) | omega | (simp; done) | (simp; omega)))
                  case rest =>
                    obtain ⟨rfl, HBc⟩ := hcut
                    apply_assumption
                    refine wp_ret ?_
                    simp only [Exit.inBlock, Exit.then]
                    refine bodyPost_ret (v := .bool false) (by simp [results, Try.results100, go_sem]) rfl ?_
                    exact ⟨ret_bool HH.out, HBc⟩
                · have HEQ : Hid (cAt (pv p a b) (pv p2 a2 b2) = decide ((i : Int) - (j : Int) = (n : Int))) := by show _ = _; rw [HCC.out, decide_eq_true hd]
                  go_wp2_with ((go_at_call 148; ((with_reducible refine (acm (pa := (p : Int)) (pb := (p2 : Int)) (p32 q5 ha) (p32 q5 hb) (p32 q5 ha2) (p32 q5 hb2) HC.out _).mono ?_); rintro ee w6 ⟨rfl, hb6⟩; obtain ⟨hc6, hf6, _⟩ := bcl hb6; have hz6 := hb6.size; (try simp at hz6); (try have hx60 : wr.heap.size < w6.heap.size := (by omega)); (try have hx61 : wr.heap.size + 1 < w6.heap.size := (by omega)); (try have hx62 : wr.heap.size + 1 + 1 < w6.heap.size := (by omega)); (try have hx63 : wr.heap.size + 1 + 1 + 1 < w6.heap.size := (by omega)))))
                  go_roundg m2
                  case measure => omega
                  case rel =>
                    refine ⟨j + 1, by omega, by go_num, okJ_s HJ.out HY.out HEQ.out, ?_, ?_⟩
                    · show Bb _ _ _ _; have R := XA.out; (repeat' (first | (with_reducible assumption) | (refine Bb.new (by first | (with_reducible rfl) | (simp; done))) | (with_reducible refine Bb.alloc ?_ _) | (with_reducible refine Bb.drew ?_) | (with_reducible refine Bb.drewN ?_ _) | (with_reducible refine Bb.mono ?_ (by assumption)) | (with_reducible refine Bb.far ?_ (by (try simp only [World.size_alloc, World.size_drew]); omega)) | (with_reducible refine Bb.set ?_ rfl) | (with_reducible refine Bb.grown ?_ (by assumption) (by assumption))))
                    · have hBr := hI.alloc (Nat.le_trans (Nat.le_refl _) hIs) (.cells #[.int .i64 (p2 : Int), .int .i64 (a2 : Int), .int .i64 (b2 : Int)] 43)
                      exact chn hBr hb6 (by simp only [World.size_alloc]; omega)
              · have hdb : ((i : Int) - (j : Int) == (n : Int)) = false := by simpa using hd
                have hdb2 : ((i : Int) == (j : Int) + (n : Int)) = false := by simp; omega
                cases c
                · have HEQ : Hid (cAt (pv p a b) (pv p2 a2 b2) = decide ((i : Int) - (j : Int) = (n : Int))) := by show _ = _; rw [HCC.out, decide_eq_false hd]
                  go_wp2_with ((go_at_call 148; ((with_reducible refine (acm (pa := (p : Int)) (pb := (p2 : Int)) (p32 q5 ha) (p32 q5 hb) (p32 q5 ha2) (p32 q5 hb2) HC.out _).mono ?_); rintro ee w6 ⟨rfl, hb6⟩; obtain ⟨hc6, hf6, _⟩ := bcl hb6; have hz6 := hb6.size; (try simp at hz6); (try have hx60 : wr.heap.size < w6.heap.size := (by omega)); (try have hx61 : wr.heap.size + 1 < w6.heap.size := (by omega)); (try have hx62 : wr.heap.size + 1 + 1 < w6.heap.size := (by omega)); (try have hx63 : wr.heap.size + 1 + 1 + 1 < w6.heap.size := (by omega)))))
                  go_roundg m2
                  case measure => omega
                  case rel =>
                    refine ⟨j + 1, by omega, by go_num, okJ_s HJ.out HY.out HEQ.out, ?_, ?_⟩
                    · show Bb _ _ _ _; have R := XA.out; (repeat' (first | (with_reducible assumption) | (refine Bb.new (by first | (with_reducible rfl) | (simp; done))) | (with_reducible refine Bb.alloc ?_ _) | (with_reducible refine Bb.drew ?_) | (with_reducible refine Bb.drewN ?_ _) | (with_reducible refine Bb.mono ?_ (by assumption)) | (with_reducible refine Bb.far ?_ (by (try simp only [World.size_alloc, World.size_drew]); omega)) | (with_reducible refine Bb.set ?_ rfl) | (with_reducible refine Bb.grown ?_ (by assumption) (by assumption))))
                    · have hBr := hI.alloc (Nat.le_trans (Nat.le_refl _) hIs) (.cells #[.int .i64 (p2 : Int), .int .i64 (a2 : Int), .int .i64 (b2 : Int)] 43)
                      exact chn hBr hb6 (by simp only [World.size_alloc]; omega)
                · have HH : Hid (false = t) := tF HT.out (fun h => by have h9 := (h i _ hlt HX.out).2.2 j _ hjt HY.out; rw [HCC.out, decide_eq_false hd] at h9; cases h9)
                  go_upto_region 14 with ((go_at_call 148; ((with_reducible refine (acm (pa := (p : Int)) (pb := (p2 : Int)) (p32 q5 ha) (p32 q5 hb) (p32 q5 ha2) (p32 q5 hb2) HC.out _).mono ?_); rintro ee w6 ⟨rfl, hb6⟩; obtain ⟨hc6, hf6, _⟩ := bcl hb6; have hz6 := hb6.size; (try simp at hz6); (try have hx60 : wr.heap.size < w6.heap.size := (by omega)); (try have hx61 : wr.heap.size + 1 < w6.heap.size := (by omega)); (try have hx62 : wr.heap.size + 1 + 1 < w6.heap.size := (by omega)); (try have hx63 : wr.heap.size + 1 + 1 + 1 < w6.heap.size := (by omega)))))
                  go_cut [2] (fun s2 wx => s2 = .bool false ∧ Below w.heap.size w wx)
                  case first =>
                    go_wp2_with (fail)
                    go_meet
                    refine ⟨rfl, ?_⟩
                    have hBr := chn hB2 hI hB2.size
                    (repeat' (first | (with_reducible exact Below.refl _ _) | (with_reducible assumption) | (with_reducible refine Below.alloc ?_ ?_ _) | (with_reducible refine Below.drew ?_) | (with_reducible refine bdN ?_ _) | (with_reducible refine Below.setCell ?_ ?_ _) | (with_reducible refine chn ?_ (by assumption) ?_) | omega | (simp; done) | (simp; omega)))
                  case rest =>
                    obtain ⟨rfl, HBc⟩ := hcut
                    apply_assumption
                    refine wp_ret ?_
                    simp only [Exit.inBlock, Exit.then]
                    refine bodyPost_ret (v := .bool false) (by simp [results, Try.results100, go_sem]) rfl ?_
                    exact ⟨ret_bool HH.out, HBc⟩
        · subst hu1
          have HH : Hid (false = t) := tF HT.out (fun h => by have h9 := (h i _ hlt HX.out).2.1; have h8 : ((p : Int)) % 2 = 0 := h9; omega)
          clear hu
          go_wp2_with ((go_at_call 73; ((with_reducible refine (ivp (x := pv p a b) HK.out _).mono ?_); rintro ee w4 ⟨rfl, hb4⟩; obtain ⟨hc4, hf4, _⟩ := bcl hb4; have hz4 := hb4.size; (try simp at hz4); (try have hx40 : wo.heap.size < w4.heap.size := (by omega)); (try have hx41 : wo.heap.size + 1 < w4.heap.size := (by omega)); (try have hx42 : wo.heap.size + 1 + 1 < w4.heap.size := (by omega)); (try have hx43 : wo.heap.size + 1 + 1 + 1 < w4.heap.size := (by omega)))))
          go_ret
          refine ⟨ret_bool HH.out, ?_⟩
          have hBr := chn hB2 hR hB2.size
          (repeat' (first | (with_reducible exact Below.refl _ _) | (with_reducible assumption) | (with_reducible refine Below.alloc ?_ ?_ _) | (with_reducible refine Below.drew ?_) | (with_reducible refine bdN ?_ _) | (with_reducible refine Below.setCell ?_ ?_ _) | (with_reducible refine chn ?_ (by assumption) ?_) | omega | (simp; done) | (simp; omega)))
end Go.Proofs.Ytjedpeoafpljhaa.C4
