/- Validity of tableaux: the model. -/
import Derived.Test.YtjedpeoafpljhaaPtv
import Derived.Test.YtjedpeoafpljhaaPv
import Derived.Test.YtjedpeoafpljhaaPd7
import Derived.Test.YtjedpeoafpljhaaRgx
import Derived.Deep.DeepCutAuto
namespace Go.Proofs.Ytjedpeoafpljhaa.C4
open Go.RowKit
set_option linter.unusedVariables false
set_option linter.unusedSimpArgs false
attribute [local irreducible] World.setCell

set_option maxRecDepth 100000 in
set_option maxHeartbeats 16000000 in
theorem gvs_m {n g h c1 c2 : Nat} {xs zs : List PauliV} {t : Bool} {w : World} (q1 : 1 ≤ n) (q5 : n ≤ 5) (ht : t = true ↔ okU n (xs ++ zs) (n + n)) (hA : Rd pauliE w (some ⟨g, 0, none⟩) xs) (hB : Rd pauliE w (some ⟨h, 0, none⟩) zs) (hn : xs.length = n) (hm : zs.length = n) :
    Calls Try.prog 97 #[tableauV (n : Int) (some ⟨g, 0, none⟩) n c1 (some ⟨h, 0, none⟩) n c2] w fun ee w' => ee = .returned (.bool t) ∧ Below w.heap.size w w' := by
  obtain ⟨i0, hi0, iz0, iz1, iz2⟩ := info_parts infoPauli
  have HQ := lay (inB_t (x := (n : Int)) (lo := 1) (hi := 5) (by omega) (by omega))
  have hgw : g < w.heap.size := by
    obtain ⟨x, hx⟩ : ∃ x, xs[0]? = some x := ⟨_, List.getElem?_eq_getElem (by omega)⟩
    obtain ⟨g', o', e, hl, -⟩ := hA.atPauli hx
    cases e; exact hl
  have hhw : h < w.heap.size := by
    obtain ⟨x, hx⟩ : ∃ x, zs[0]? = some x := ⟨_, List.getElem?_eq_getElem (by omega)⟩
    obtain ⟨g', o', e, hl, -⟩ := hB.atPauli hx
    cases e; exact hl
  have hll : (xs ++ zs).length = n + n := by rw [List.length_append, hn, hm]
  have HLL := lay hll
  have HT := lay ht
  have HA := lay hA
  have HB := lay hB
  have HN := lay hn
  have HM := lay hm
  clear hll ht hA hB hn hm
  go_enter Try.func97, Try.ntmps97
  go_wp2_with (fail)
  refine (lin HQ.out _).mono ?_
  rintro ee w1 ⟨rfl, rfl⟩
  go_upto_region 3 with (fail)
  obtain ⟨W1, hW1⟩ : ∃ W : World, W = w.alloc (.cells #[.int .i64 (n : Int), .slice (some ⟨g, 0, none⟩) n c1, .slice (some ⟨h, 0, none⟩) n c2] 53) := ⟨_, rfl⟩
  have hbW : Below w.heap.size w W1 := by rw [hW1]; (repeat' (first | (with_reducible exact Below.refl _ _) | (with_reducible assumption) | (with_reducible refine Below.alloc ?_ ?_ _) | (with_reducible refine Below.drew ?_) | (with_reducible refine bdN ?_ _) | (with_reducible refine Below.setCell ?_ ?_ _) | (with_reducible refine chn ?_ (by assumption) ?_) | omega | (simp; done) | (simp; omega)))
  have XaW : Bb W1 (w.heap.size) 53 #[.int .i64 (n : Int), .slice (some ⟨g, 0, none⟩) n c1, .slice (some ⟨h, 0, none⟩) n c2] := by rw [hW1]; exact Bb.new rfl
  rw [← hW1]
  clear hW1
  have hWs := hbW.size
  have hWl : w.heap.size < W1.heap.size := XaW.lt
  have ca0 := XaW.c 0 rfl
  have ca1 := XaW.c 1 rfl
  have ca2 := XaW.c 2 rfl
  have yca0 : W1.drew.cell? ⟨w.heap.size, 0, none⟩ = some (.int .i64 (n : Int)) := ca0
  have yca1 : W1.drew.cell? ⟨w.heap.size, 1, none⟩ = some (.slice (some ⟨g, 0, none⟩) n c1) := ca1
  have yca2 : W1.drew.cell? ⟨w.heap.size, 2, none⟩ = some (.slice (some ⟨h, 0, none⟩) n c2) := ca2
  refine wp_region_x (fun w' => w'.cell? ⟨w.heap.size, 0, none⟩ = some (.int .i64 (n : Int)) ∧ w'.cell? ⟨w.heap.size, 1, none⟩ = some (.slice (some ⟨g, 0, none⟩) n c1) ∧ w'.cell? ⟨w.heap.size, 2, none⟩ = some (.slice (some ⟨h, 0, none⟩) n c2)) 1000 (by kernel_rfl) ⟨yca0, yca1, yca2⟩ (fun hS0 => ?_)
  refine wpAnyX_take (i := 1) (oi := _) (v := ?_) rfl (by kernel_rfl) (by kernel_rfl) (by kernel_rfl) (by kernel_rfl) (fun _ _ _ h => h) (Or.inl ⟨by rfl, ?_⟩) hS0 ?_
  rotate_left 1
  · (intro w hSw; (try dsimp only at hSw); go_simp; (try with_reducible rfl))
  try simp only [Act.put, List.setIfInBounds_toArray, List.set_cons_zero, List.set_cons_succ]
  refine wpAnyX_take (i := 2) (oi := _) (v := ?_) rfl (by kernel_rfl) (by kernel_rfl) (by kernel_rfl) (by kernel_rfl) (fun _ _ _ h => h) (Or.inl ⟨by rfl, ?_⟩) hS0 ?_
  rotate_left 1
  · (intro w hSw; (try dsimp only at hSw); go_simp; (try with_reducible rfl))
  try simp only [Act.put, List.setIfInBounds_toArray, List.set_cons_zero, List.set_cons_succ]
  refine wpAnyX_take (i := 4) (oi := _) (v := ?_) rfl (by kernel_rfl) (by kernel_rfl) (by kernel_rfl) (by kernel_rfl) (fun _ _ _ h => h) (Or.inl ⟨by rfl, ?_⟩) hS0 ?_
  rotate_left 1
  · (intro w hSw; (try dsimp only at hSw); go_simp; (try with_reducible rfl))
  try simp only [Act.put, List.setIfInBounds_toArray, List.set_cons_zero, List.set_cons_succ]
  refine wpAnyX_take (i := 5) (oi := _) (v := ?_) rfl (by kernel_rfl) (by kernel_rfl) (by kernel_rfl) (by kernel_rfl) (fun _ _ _ h => h) (Or.inl ⟨by rfl, ?_⟩) hS0 ?_
  rotate_left 1
  · (intro w hSw; (try dsimp only at hSw); go_simp; (try with_reducible rfl))
  try simp only [Act.put, List.setIfInBounds_toArray, List.set_cons_zero, List.set_cons_succ]
  refine wpAnyX_one (i := 0) (o := _) rfl (by kernel_rfl) (fun K hK => ?_)
  go_simp
  refine hK.out _ _ (fun _ => ?_) (fun hS1 => ?_)
  · first | exact ⟨kclAl (hS0.1), kclAl (hS0.2.1), kclAl (hS0.2.2)⟩ | exact ⟨kclAld (hS0.1), kclAld (hS0.2.1), kclAld (hS0.2.2)⟩
  clear hK K
  have hS1 := hS1 (by decide)
  try simp only [Act.put, List.setIfInBounds_toArray, List.set_cons_zero, List.set_cons_succ]
  refine wpAnyX_one (i := 3) (o := _) rfl (by kernel_rfl) (fun K hK => ?_)
  refine step_appN (E := pauliE) rfl _ _ _ (by rfl) W1.heap.size 43 i0 _ 24 Try.underlying51 hi0 iz0 iz1 iz2 rfl _ _ 0 rfl (by rfl) (by first | exact (Own.made rfl (Nat.le_refl _) (by decide) rfl) | exact (Own.made rfl (Nat.le_refl _) (by decide) rfl).drew) g 0 n c1 xs HN.out (by rfl) (by exact HA.out.at_ (fun a ha => by cases ha; exact (Below.heap_alloc W1.drew _ g (by show g < W1.heap.size; omega)).trans (hbW.block g hgw))) (by unfold maxLen; omega) (by omega) (by (try simp only [World.size_alloc, World.size_drew]); omega) ?_
  intro A8 cp8 w8 hO8 hG8 hat8
  have ne8 : some w.heap.size ≠ (Value.slice (some (⟨W1.heap.size, 0, none⟩ : Addr)) 0 0).ownBlock := by simp [Value.ownBlock]; omega
  have hz8 := hG8.size
  (try simp only [World.size_alloc, World.size_drew] at hz8)
  have hB8 : Below W1.heap.size W1 w8 := Below.grown ((Below.refl W1.heap.size W1).drew.alloc (by simp only [World.size_drew]; omega) _) hG8 (by (try simp only [World.size_alloc, World.size_drew]); omega) (fun k e => by have h : some W1.heap.size = some k := e; cases h; omega)
  rw [List.nil_append] at hO8
  simp only [Nat.zero_add] at hO8
  simp only [Nat.zero_add]
  have HO8 := lay hO8
  have HV8 := lay (fun k e => (hO8.lt k e).1 : ∀ k, (Value.slice A8 n cp8).ownBlock = some k → W1.heap.size ≤ k)
  clear hO8
  refine hK.out _ _ (fun _ => ?_) (fun hS2 => ?_)
  · exact ⟨hG8.cell (hS1.1) ne8, hG8.cell (hS1.2.1) ne8, hG8.cell (hS1.2.2) ne8⟩
  clear hK K
  have hS2 := hS2 (by decide)
  try simp only [Act.put, List.setIfInBounds_toArray, List.set_cons_zero, List.set_cons_succ]
  refine wpAnyX_one (i := 6) (o := _) rfl (by kernel_rfl) (fun K hK => ?_)
  refine step_appN (E := pauliE) rfl _ _ _ (by rfl) W1.heap.size 43 i0 _ 24 Try.underlying51 hi0 iz0 iz1 iz2 rfl _ _ n HN.out (by rfl) HO8.out h 0 n c2 zs HM.out (by rfl) (by exact HB.out.at_ (fun a ha => by cases ha; exact (hB8.block h (by omega)).trans (hbW.block h hhw))) (by unfold maxLen; omega) (by omega) (by (try simp only [World.size_alloc, World.size_drew]); omega) ?_
  intro A9 cp9 w9 hO9 hG9 hat9
  have ne9 : some w.heap.size ≠ (Value.slice A8 n cp8).ownBlock := fun e => by have := HV8.out _ e.symm; omega
  have hz9 := hG9.size
  have hB9 : Below W1.heap.size W1 w9 := Below.grown hB8 hG9 (by omega) (fun k e => HV8.out k e)
  refine hK.out _ _ (fun _ => ?_) (fun hS3 => ?_)
  · exact ⟨hG9.cell (hS2.1) ne9, hG9.cell (hS2.2.1) ne9, hG9.cell (hS2.2.2) ne9⟩
  clear hK K
  have hS3 := hS3 (by decide)
  try simp only [Act.put, List.setIfInBounds_toArray, List.set_cons_zero, List.set_cons_succ]
  refine wpAnyX_take (i := 7) (oi := _) (v := ?_) rfl (by kernel_rfl) (by kernel_rfl) (by kernel_rfl) (by kernel_rfl) (fun _ _ _ h => h) (Or.inl ⟨by rfl, ?_⟩) hS3 ?_
  rotate_left 1
  · (intro w hSw; (try dsimp only at hSw); go_simp; (try with_reducible rfl))
  change wpAnyX _ _ _ _ _ _ _ _ (Act.put _ (some 3) _) _
  try simp only [Act.put, List.setIfInBounds_toArray, List.set_cons_zero, List.set_cons_succ]
  refine wpAnyX_done (by kernel_rfl) ?_ _
  obtain ⟨w2, rfl⟩ : ∃ w2, w2 = w9 := ⟨_, rfl⟩
  have hb2 : Below W1.heap.size W1 w2 := hB9
  have hcap := hO9.cap
  obtain ⟨A, cp, hv, hO⟩ := hO9.ow
  have hlen : (xs ++ zs).length = n + n := HLL.out
  rw [hlen] at hv
  cases hv
  obtain ⟨hcp, hcm⟩ := hcap _ _ _ rfl
  obtain ⟨A, rfl⟩ : ∃ A, A = A9 := ⟨_, rfl⟩
  obtain ⟨cp, rfl⟩ : ∃ c, c = cp9 := ⟨_, rfl⟩
  have hS3 := hS0
  clear hS0 hS1 hS2 hS3 hB8 hB9 HO8 HV8 hG8 hG9 hat8 hat9 hO9 ne8 ne9 hcap hlen ca0 ca1 ca2
  have hz2 := hb2.size
  (try simp only [World.size_alloc] at hz2)
  have Xa : Hid (Bb w2 (w.heap.size) 53 #[.int .i64 (n : Int), .slice (some ⟨g, 0, none⟩) n c1, .slice (some ⟨h, 0, none⟩) n c2]) := XaW.mono hb2
  have hB2 : Below w.heap.size w w2 := chn hbW hb2 hbW.size
  clear XaW hbW
  obtain ⟨g2, rfl, hBs⟩ : ∃ g2, A = some ⟨g2, 0, none⟩ ∧ Bs pauliE w2 g2 43 (xs ++ zs) := by
    rcases hO with ⟨e, -⟩ | ⟨g2, e, -, hBs⟩
    · have := HLL.out; rw [e] at this; simp at this; omega
    · exact ⟨g2, e, hBs⟩
  have HBS := lay hBs
  rw [HLL.out] at hcp
  obtain ⟨ys, hys⟩ : ∃ ys, ys = xs ++ zs := ⟨_, rfl⟩
  rw [← hys] at HBS HLL HT
  obtain ⟨N, hN⟩ : ∃ N, N = n + n := ⟨_, rfl⟩
  rw [← hN] at hcp HLL HT
  rw [← hN]
  have hN1 : 2 ≤ N := by omega
  have hN2 : N ≤ 10 := by omega
  have hcp2 : cp ≤ 9223372036854775807 := by unfold maxLen at hcm; omega
  clear hb2 hO hBs hys hN HA HB HN HM hcm
  have ca0 := Xa.out.c 0 rfl
  have ca1 := Xa.out.c 1 rfl
  have ca2 := Xa.out.c 2 rfl
  have la := Xa.out.lt
  go_wp2_with (fail)
  go_loopg [37] N (fun k s1 wr => ∃ i : Nat, i + k = N ∧ s1 = .int .i64 (i : Int) ∧ Hid (okU n ys i) ∧ Below w2.heap.size w2 wr)
  case atStart => exact ⟨0, by omega, rfl, okU_0 _ _, by (repeat' (first | (with_reducible exact Below.refl _ _) | (with_reducible assumption) | (with_reducible refine Below.alloc ?_ ?_ _) | (with_reducible refine Below.drew ?_) | (with_reducible refine bdN ?_ _) | (with_reducible refine Below.setCell ?_ ?_ _) | (with_reducible refine chn ?_ (by assumption) ?_) | omega | (simp; done) | (simp; omega)))⟩
  case round =>
    obtain ⟨i, hi, rfl, HU, hR⟩ := hrel
    obtain ⟨wo, rfl⟩ : ∃ wo, wo = wr := ⟨_, rfl⟩
    have hRz := hR.size
    have Xr := lay (Xa.out.below hR Xa.out.lt)
    clear ca0 ca1 ca2 la
    have ca0 := Xr.out.c 0 rfl
    have ca1 := Xr.out.c 1 rfl
    have ca2 := Xr.out.c 2 rfl
    have la := Xr.out.lt
    cases gk with
    | zero =>
      obtain rfl : N = i := by omega
      have HH : Hid (true = t) := (HT.out.2 HU.out).symm
      go_wp2_with (fail)
      go_ret
      refine ⟨ret_bool HH.out, ?_⟩
      exact chn hB2 hR hB2.size
    | succ m =>
      have hlt : i < N := by omega
      have il : (i : Int) < (N : Int) := by omega
      obtain ⟨x, hx⟩ : ∃ x, ys[i]? = some x := ⟨_, List.getElem?_eq_getElem (by rw [HLL.out]; exact hlt)⟩
      have hgl := HBS.out.lt
      obtain ⟨q0, q1', q2⟩ := Bs.atPauli (HBS.out.at_ (hR.block g2 hgl)) hx
      have HX := lay hx
      clear hx
      cases hk : pB (n : Int) x
      · have HK := lay hk
        have HH : Hid (false = t) := tF HT.out (fun h => by have := (h i x hlt HX.out).1; rw [HK.out] at this; cases this)
        clear hk
        go_wp2_with ((go_at_call 71; ((with_reducible refine (l7v (x := x) HK.out _).mono ?_); rintro ee w4 ⟨rfl, hb4⟩; obtain ⟨hc4, hf4, _⟩ := bcl hb4; have hz4 := hb4.size; (try simp at hz4); (try have hx40 : wo.heap.size < w4.heap.size := (by omega)); (try have hx41 : wo.heap.size + 1 < w4.heap.size := (by omega)); (try have hx42 : wo.heap.size + 1 + 1 < w4.heap.size := (by omega)); (try have hx43 : wo.heap.size + 1 + 1 + 1 < w4.heap.size := (by omega)))))
        go_ret
        refine ⟨ret_bool HH.out, ?_⟩
        have hBr := chn hB2 hR hB2.size
        (repeat' (first | (with_reducible exact Below.refl _ _) | (with_reducible assumption) | (with_reducible refine Below.alloc ?_ ?_ _) | (with_reducible refine Below.drew ?_) | (with_reducible refine bdN ?_ _) | (with_reducible refine Below.setCell ?_ ?_ _) | (with_reducible refine chn ?_ (by assumption) ?_) | omega | (simp; done) | (simp; omega)))
      · have HK := lay hk
        obtain ⟨k', p, a, b, hkn, -, -, rfl, hp3, ha, hb⟩ := pB_nat hk
        obtain rfl : n = k' := by omega
        clear hk hkn
        obtain ⟨u, hu⟩ : ∃ u, u = p % 2 := ⟨_, rfl⟩
        have e4 : ((p : Int)).tmod 2 = (u : Int) := by rw [Int.tmod_eq_emod_of_nonneg (by omega)]; omega
        have e5 : (p : Int) % 2 = (u : Int) := by omega
        have hu2 : u = 0 ∨ u = 1 := by omega
        rcases hu2 with hu0 | hu1
        · subst hu0
          have ev : Hid (((pv p a b).f0) % 2 = 0) := by show ((p : Int)) % 2 = 0; omega
          clear hu
          have hic : i ≤ cp := by omega
          have hic2 : (i : Int) ≤ (cp : Int) := by omega
          go_wp2_with ((go_at_call 71; ((with_reducible refine (l7v (x := pv p a b) HK.out _).mono ?_); rintro ee w4 ⟨rfl, hb4⟩; obtain ⟨hc4, hf4, _⟩ := bcl hb4; have hz4 := hb4.size; (try simp at hz4); (try have hx40 : wo.heap.size < w4.heap.size := (by omega)); (try have hx41 : wo.heap.size + 1 < w4.heap.size := (by omega)); (try have hx42 : wo.heap.size + 1 + 1 < w4.heap.size := (by omega)); (try have hx43 : wo.heap.size + 1 + 1 + 1 < w4.heap.size := (by omega)))))
          have hR4 : Below w2.heap.size w2 w4 := chn (hR.alloc (by omega) _) hb4 (by simp only [World.size_alloc]; omega)
          have XA4 : Bb w4 (wo.heap.size) 43 #[.int .i64 (p : Int), .int .i64 (a : Int), .int .i64 (b : Int)] := Bb.mono (Bb.new rfl) hb4
          clear hc4 hf4 hb4 q0 q1' q2 ca0 ca1 ca2 la
          go_wp2_with (fail)
          go_loopg [57] i (fun k s2 wr => ∃ j : Nat, j + k = i ∧ s2 = .int .i64 (j : Int) ∧ Hid (okJ n ys i (pv p a b) j) ∧ Hid (Bb wr (wo.heap.size) 43 #[.int .i64 (p : Int), .int .i64 (a : Int), .int .i64 (b : Int)]) ∧ Below w2.heap.size w2 wr)
          case atStart => exact ⟨0, by omega, rfl, fun k y hk => absurd hk (Nat.not_lt_zero k), XA4, hR4⟩
          case round =>
            obtain ⟨j, hj, rfl, HJ, XA, hI⟩ := hrel
            have hIs := hI.size
            have Xi := lay (Xa.out.below hI Xa.out.lt)
            have ca0 := Xi.out.c 0 rfl
            have ca1 := Xi.out.c 1 rfl
            have ca2 := Xi.out.c 2 rfl
            have la := Xi.out.lt
            have cx0 := XA.out.c 0 rfl
            have cx1 := XA.out.c 1 rfl
            have cx2 := XA.out.c 2 rfl
            have lx := XA.out.lt
            cases gk with
            | zero =>
              obtain rfl : i = j := by omega
              go_wp2_with (fail)
              go_roundg m
              case measure => omega
              case rel => exact ⟨i + 1, by omega, by go_num, okU_s HU.out HX.out ⟨HK.out, ev.out, HJ.out⟩, hI⟩
            | succ m2 =>
              have hjt : j < i := by omega
              have jl : (j : Int) < (i : Int) := by omega
              obtain ⟨y, hy⟩ : ∃ y, ys[j]? = some y := ⟨_, List.getElem?_eq_getElem (by rw [HLL.out]; omega)⟩
              obtain ⟨k2, p2, a2, b2, hk2, -, -, rfl, hp2, ha2, hb2⟩ := pB_nat (HU.out j y hjt hy).1
              obtain rfl : n = k2 := by omega
              obtain ⟨y0, y1, y2⟩ := Bs.atPauli (HBS.out.at_ (hI.block g2 hgl)) hy
              have HY := lay hy
              clear hy hk2
              obtain ⟨c, hc⟩ : ∃ c, acB a b a2 b2 = c := ⟨_, rfl⟩
              have HC := lay hc
              have HCC : Hid (cAt (pv p a b) (pv p2 a2 b2) = c) := hc
              clear hc
              by_cases hd : (i : Int) - (j : Int) = (n : Int)
              · cases c
                · have HH : Hid (false = t) := tF HT.out (fun h => by have h9 := (h i _ hlt HX.out).2.2 j _ hjt HY.out; rw [HCC.out, decide_eq_true hd] at h9; cases h9)
                  have HCN : Hid ((!acB a b a2 b2) = true) := by show (!acB a b a2 b2) = true; rw [HC.out]; rfl
                  have HDE := lay (show (i : Int) = (j : Int) + (n : Int) by omega)
                  go_upto_region 12 with (fail)
                  obtain ⟨W3, hW3⟩ : ∃ W : World, W = wr.alloc (.cells #[.int .i64 (p2 : Int), .int .i64 (a2 : Int), .int .i64 (b2 : Int)] 43) := ⟨_, rfl⟩
                  obtain ⟨W3b, hW3b⟩ : ∃ b, b = wr.heap.size := ⟨_, rfl⟩
                  have XX3 : Bb W3 wo.heap.size 43 #[.int .i64 (p : Int), .int .i64 (a : Int), .int .i64 (b : Int)] := by rw [hW3]; exact XA.out.alloc _
                  have XY3 : Bb W3 W3b 43 #[.int .i64 (p2 : Int), .int .i64 (a2 : Int), .int .i64 (b2 : Int)] := by rw [hW3]; exact Bb.new hW3b
                  have XI3 : Bb W3 (w.heap.size) 53 #[.int .i64 (n : Int), .slice (some ⟨g, 0, none⟩) n c1, .slice (some ⟨h, 0, none⟩) n c2] := by rw [hW3]; exact Xi.out.alloc _
                  have hI3 : Below w2.heap.size w2 W3 := by rw [hW3]; exact hI.alloc hIs _
                  rw [← hW3, ← hW3b]
                  clear hW3 hW3b
                  have cx0 := XX3.c 0 rfl
                  have cx1 := XX3.c 1 rfl
                  have cx2 := XX3.c 2 rfl
                  have cy0 := XY3.c 0 rfl
                  have cy1 := XY3.c 1 rfl
                  have cy2 := XY3.c 2 rfl
                  have cn0 := XI3.c 0 rfl
                  have ejn : IntKind.i64.wrap ((j : Int) + (n : Int)) = (j : Int) + (n : Int) := IntWalk.i64_in _ (by omega)
                  have ycx0 : W3.drew.cell? ⟨wo.heap.size, 0, none⟩ = some (.int .i64 (p : Int)) := cx0
                  have ycx1 : W3.drew.cell? ⟨wo.heap.size, 1, none⟩ = some (.int .i64 (a : Int)) := cx1
                  have ycx2 : W3.drew.cell? ⟨wo.heap.size, 2, none⟩ = some (.int .i64 (b : Int)) := cx2
                  have ycy0 : W3.drew.cell? ⟨W3b, 0, none⟩ = some (.int .i64 (p2 : Int)) := cy0
                  have ycy1 : W3.drew.cell? ⟨W3b, 1, none⟩ = some (.int .i64 (a2 : Int)) := cy1
                  have ycy2 : W3.drew.cell? ⟨W3b, 2, none⟩ = some (.int .i64 (b2 : Int)) := cy2
                  have ycn0 : W3.drew.cell? ⟨w.heap.size, 0, none⟩ = some (.int .i64 (n : Int)) := cn0
                  refine wp_region_x (fun w' => w'.cell? ⟨wo.heap.size, 0, none⟩ = some (.int .i64 (p : Int)) ∧ w'.cell? ⟨wo.heap.size, 1, none⟩ = some (.int .i64 (a : Int)) ∧ w'.cell? ⟨wo.heap.size, 2, none⟩ = some (.int .i64 (b : Int)) ∧ w'.cell? ⟨W3b, 0, none⟩ = some (.int .i64 (p2 : Int)) ∧ w'.cell? ⟨W3b, 1, none⟩ = some (.int .i64 (a2 : Int)) ∧ w'.cell? ⟨W3b, 2, none⟩ = some (.int .i64 (b2 : Int)) ∧ w'.cell? ⟨w.heap.size, 0, none⟩ = some (.int .i64 (n : Int))) 1000 (by kernel_rfl) ⟨ycx0, ycx1, ycx2, ycy0, ycy1, ycy2, ycn0⟩ (fun hS0 => ?_)
                  refine wpAnyX_take (i := 0) (oi := _) (v := ?_) rfl (by kernel_rfl) (by kernel_rfl) (by kernel_rfl) (by kernel_rfl) (fun _ _ _ h => h) (Or.inl ⟨by rfl, ?_⟩) hS0 ?_
                  rotate_left 1
                  · (intro w hSw; (try dsimp only at hSw); go_simp; (try with_reducible rfl))
                  try simp only [Act.put, List.setIfInBounds_toArray, List.set_cons_zero, List.set_cons_succ]
                  refine wpAnyX_take (i := 1) (oi := _) (v := ?_) rfl (by kernel_rfl) (by kernel_rfl) (by kernel_rfl) (by kernel_rfl) (fun _ _ _ h => h) (Or.inl ⟨by rfl, ?_⟩) hS0 ?_
                  rotate_left 1
                  · (intro w hSw; (try dsimp only at hSw); go_simp; (try with_reducible rfl))
                  try simp only [Act.put, List.setIfInBounds_toArray, List.set_cons_zero, List.set_cons_succ]
                  refine wpAnyX_take (i := 3) (oi := _) (v := ?_) rfl (by kernel_rfl) (by kernel_rfl) (by kernel_rfl) (by kernel_rfl) (fun _ _ _ h => h) (Or.inl ⟨by rfl, ?_⟩) hS0 ?_
                  rotate_left 1
                  · (intro w hSw; (try dsimp only at hSw); go_simp; (try with_reducible rfl))
                  try simp only [Act.put, List.setIfInBounds_toArray, List.set_cons_zero, List.set_cons_succ]
                  refine wpAnyX_take (i := 4) (oi := _) (v := ?_) rfl (by kernel_rfl) (by kernel_rfl) (by kernel_rfl) (by kernel_rfl) (fun _ _ _ h => h) (Or.inl ⟨by rfl, ?_⟩) hS0 ?_
                  rotate_left 1
                  · (intro w hSw; (try dsimp only at hSw); go_simp; (try with_reducible rfl))
                  try simp only [Act.put, List.setIfInBounds_toArray, List.set_cons_zero, List.set_cons_succ]
                  refine wpAnyX_take (i := 5) (oi := _) (v := ?_) rfl (by kernel_rfl) (by kernel_rfl) (by kernel_rfl) (by kernel_rfl) (fun _ _ _ h => h) (Or.inl ⟨by rfl, ?_⟩) hS0 ?_
                  rotate_left 1
                  · (intro w hSw; (try dsimp only at hSw); go_simp; (try with_reducible rfl))
                  try simp only [Act.put, List.setIfInBounds_toArray, List.set_cons_zero, List.set_cons_succ]
                  refine wpAnyX_take (i := 6) (oi := _) (v := ?_) rfl (by kernel_rfl) (by kernel_rfl) (by kernel_rfl) (by kernel_rfl) (fun _ _ _ h => h) (Or.inl ⟨by rfl, ?_⟩) hS0 ?_
                  rotate_left 1
                  · (intro w hSw; (try dsimp only at hSw); go_simp; (try with_reducible rfl))
                  try simp only [Act.put, List.setIfInBounds_toArray, List.set_cons_zero, List.set_cons_succ]
                  refine wpAnyX_take (i := 7) (oi := _) (v := ?_) rfl (by kernel_rfl) (by kernel_rfl) (by kernel_rfl) (by kernel_rfl) (fun _ _ _ h => h) (Or.inl ⟨by rfl, ?_⟩) hS0 ?_
                  rotate_left 1
                  · (intro w hSw; (try dsimp only at hSw); go_simp; (try with_reducible rfl))
                  try simp only [Act.put, List.setIfInBounds_toArray, List.set_cons_zero, List.set_cons_succ]
                  refine wpAnyX_take (i := 8) (oi := _) (v := .bool true) rfl (by kernel_rfl) (by kernel_rfl) (by kernel_rfl) (by kernel_rfl) (fun _ _ _ h => h) (Or.inl ⟨by rfl, ?_⟩) hS0 ?_
                  · (intro w hSw; (try dsimp only at hSw); go_simp; (try (have h9 := HDE.out; simp [h9])))
                  try simp only [Act.put, List.setIfInBounds_toArray, List.set_cons_zero, List.set_cons_succ]
                  refine wpAnyX_one (i := 2) (o := _) rfl (by kernel_rfl) (fun K hK => ?_)
                  go_simp
                  refine (l7c (pa := p) (pb := p2) (by omega) (by omega) (p32 q5 ha) (p32 q5 hb) (p32 q5 ha2) (p32 q5 hb2) HCN.out _).mono ?_
                  rintro ee w6 ⟨rfl, hb6⟩
                  refine hK.out _ _ (fun _ => ?_) (fun hS1 => ?_)
                  · exact ⟨kcl hb6 (hS0.1), kcl hb6 (hS0.2.1), kcl hb6 (hS0.2.2.1), kcl hb6 (hS0.2.2.2.1), kcl hb6 (hS0.2.2.2.2.1), kcl hb6 (hS0.2.2.2.2.2.1), kcl hb6 (hS0.2.2.2.2.2.2)⟩
                  clear hK K
                  have hS1 := hS1 (by decide)
                  try simp only [Act.put, List.setIfInBounds_toArray, List.set_cons_zero, List.set_cons_succ]
                  refine wpAnyX_take (i := 9) (oi := _) (v := .bool true) rfl (by kernel_rfl) (by kernel_rfl) (by kernel_rfl) (by kernel_rfl) (fun _ _ _ h => h) (Or.inl ⟨by rfl, ?_⟩) hS1 ?_
                  · (intro w hSw; (try dsimp only at hSw); go_simp; (try (first | rfl | (simp; done))))
                  change wpAnyX _ _ _ _ _ _ _ _ (Act.put _ (some 71) _) _
                  try simp only [Act.put, List.setIfInBounds_toArray, List.set_cons_zero, List.set_cons_succ]
                  refine wpAnyX_done (by kernel_rfl) ?_ _
                  have hW6 : Below W3.heap.size W3 w6 := ⟨hb6.os, hb6.tape, hb6.output, hb6.size, hb6.block⟩
                  have hI6 : Below w2.heap.size w2 w6 := chn hI3 hW6 hI3.size
                  have X6 := lay (XX3.mono hW6)
                  go_upto_region 13 with (fail)
                  go_cut [2] (fun s2 wx => s2 = .bool false ∧ Below w.heap.size w wx)
                  case first =>
                    go_wp2_with (fail)
                    go_meet
                    refine ⟨rfl, ?_⟩
                    have hBr := chn hB2 hI6 hB2.size
                    (repeat' (first | (with_reducible exact Below.refl _ _) | (with_reducible assumption) | (with_reducible refine Below.alloc ?_ ?_ _) | (with_reducible refine Below.drew ?_) | (with_reducible refine bdN ?_ _) | (with_reducible refine Below.setCell ?_ ?_ _) | (with_reducible refine chn ?_ (by assumption) ?_) | omega | (simp; done) | (simp; omega)))
                  case rest =>
                    obtain ⟨rfl, HBc⟩ := hcut
                    apply_assumption
                    refine wp_ret ?_
                    simp only [Exit.inBlock, Exit.then]
                    refine bodyPost_ret (v := .bool false) (by simp [results, Try.results97, go_sem]) rfl ?_
                    exact ⟨ret_bool HH.out, HBc⟩
                · have HEQ : Hid (cAt (pv p a b) (pv p2 a2 b2) = decide ((i : Int) - (j : Int) = (n : Int))) := by show _ = _; rw [HCC.out, decide_eq_true hd]
                  have HCN : Hid ((!acB a b a2 b2) = false) := by show (!acB a b a2 b2) = false; rw [HC.out]; rfl
                  have HDE := lay (show (i : Int) = (j : Int) + (n : Int) by omega)
                  go_upto_region 12 with (fail)
                  obtain ⟨W3, hW3⟩ : ∃ W : World, W = wr.alloc (.cells #[.int .i64 (p2 : Int), .int .i64 (a2 : Int), .int .i64 (b2 : Int)] 43) := ⟨_, rfl⟩
                  obtain ⟨W3b, hW3b⟩ : ∃ b, b = wr.heap.size := ⟨_, rfl⟩
                  have XX3 : Bb W3 wo.heap.size 43 #[.int .i64 (p : Int), .int .i64 (a : Int), .int .i64 (b : Int)] := by rw [hW3]; exact XA.out.alloc _
                  have XY3 : Bb W3 W3b 43 #[.int .i64 (p2 : Int), .int .i64 (a2 : Int), .int .i64 (b2 : Int)] := by rw [hW3]; exact Bb.new hW3b
                  have XI3 : Bb W3 (w.heap.size) 53 #[.int .i64 (n : Int), .slice (some ⟨g, 0, none⟩) n c1, .slice (some ⟨h, 0, none⟩) n c2] := by rw [hW3]; exact Xi.out.alloc _
                  have hI3 : Below w2.heap.size w2 W3 := by rw [hW3]; exact hI.alloc hIs _
                  rw [← hW3, ← hW3b]
                  clear hW3 hW3b
                  have cx0 := XX3.c 0 rfl
                  have cx1 := XX3.c 1 rfl
                  have cx2 := XX3.c 2 rfl
                  have cy0 := XY3.c 0 rfl
                  have cy1 := XY3.c 1 rfl
                  have cy2 := XY3.c 2 rfl
                  have cn0 := XI3.c 0 rfl
                  have ejn : IntKind.i64.wrap ((j : Int) + (n : Int)) = (j : Int) + (n : Int) := IntWalk.i64_in _ (by omega)
                  have ycx0 : W3.drew.cell? ⟨wo.heap.size, 0, none⟩ = some (.int .i64 (p : Int)) := cx0
                  have ycx1 : W3.drew.cell? ⟨wo.heap.size, 1, none⟩ = some (.int .i64 (a : Int)) := cx1
                  have ycx2 : W3.drew.cell? ⟨wo.heap.size, 2, none⟩ = some (.int .i64 (b : Int)) := cx2
                  have ycy0 : W3.drew.cell? ⟨W3b, 0, none⟩ = some (.int .i64 (p2 : Int)) := cy0
                  have ycy1 : W3.drew.cell? ⟨W3b, 1, none⟩ = some (.int .i64 (a2 : Int)) := cy1
                  have ycy2 : W3.drew.cell? ⟨W3b, 2, none⟩ = some (.int .i64 (b2 : Int)) := cy2
                  have ycn0 : W3.drew.cell? ⟨w.heap.size, 0, none⟩ = some (.int .i64 (n : Int)) := cn0
                  refine wp_region_x (fun w' => w'.cell? ⟨wo.heap.size, 0, none⟩ = some (.int .i64 (p : Int)) ∧ w'.cell? ⟨wo.heap.size, 1, none⟩ = some (.int .i64 (a : Int)) ∧ w'.cell? ⟨wo.heap.size, 2, none⟩ = some (.int .i64 (b : Int)) ∧ w'.cell? ⟨W3b, 0, none⟩ = some (.int .i64 (p2 : Int)) ∧ w'.cell? ⟨W3b, 1, none⟩ = some (.int .i64 (a2 : Int)) ∧ w'.cell? ⟨W3b, 2, none⟩ = some (.int .i64 (b2 : Int)) ∧ w'.cell? ⟨w.heap.size, 0, none⟩ = some (.int .i64 (n : Int))) 1000 (by kernel_rfl) ⟨ycx0, ycx1, ycx2, ycy0, ycy1, ycy2, ycn0⟩ (fun hS0 => ?_)
                  refine wpAnyX_take (i := 0) (oi := _) (v := ?_) rfl (by kernel_rfl) (by kernel_rfl) (by kernel_rfl) (by kernel_rfl) (fun _ _ _ h => h) (Or.inl ⟨by rfl, ?_⟩) hS0 ?_
                  rotate_left 1
                  · (intro w hSw; (try dsimp only at hSw); go_simp; (try with_reducible rfl))
                  try simp only [Act.put, List.setIfInBounds_toArray, List.set_cons_zero, List.set_cons_succ]
                  refine wpAnyX_take (i := 1) (oi := _) (v := ?_) rfl (by kernel_rfl) (by kernel_rfl) (by kernel_rfl) (by kernel_rfl) (fun _ _ _ h => h) (Or.inl ⟨by rfl, ?_⟩) hS0 ?_
                  rotate_left 1
                  · (intro w hSw; (try dsimp only at hSw); go_simp; (try with_reducible rfl))
                  try simp only [Act.put, List.setIfInBounds_toArray, List.set_cons_zero, List.set_cons_succ]
                  refine wpAnyX_take (i := 3) (oi := _) (v := ?_) rfl (by kernel_rfl) (by kernel_rfl) (by kernel_rfl) (by kernel_rfl) (fun _ _ _ h => h) (Or.inl ⟨by rfl, ?_⟩) hS0 ?_
                  rotate_left 1
                  · (intro w hSw; (try dsimp only at hSw); go_simp; (try with_reducible rfl))
                  try simp only [Act.put, List.setIfInBounds_toArray, List.set_cons_zero, List.set_cons_succ]
                  refine wpAnyX_take (i := 4) (oi := _) (v := ?_) rfl (by kernel_rfl) (by kernel_rfl) (by kernel_rfl) (by kernel_rfl) (fun _ _ _ h => h) (Or.inl ⟨by rfl, ?_⟩) hS0 ?_
                  rotate_left 1
                  · (intro w hSw; (try dsimp only at hSw); go_simp; (try with_reducible rfl))
                  try simp only [Act.put, List.setIfInBounds_toArray, List.set_cons_zero, List.set_cons_succ]
                  refine wpAnyX_take (i := 5) (oi := _) (v := ?_) rfl (by kernel_rfl) (by kernel_rfl) (by kernel_rfl) (by kernel_rfl) (fun _ _ _ h => h) (Or.inl ⟨by rfl, ?_⟩) hS0 ?_
                  rotate_left 1
                  · (intro w hSw; (try dsimp only at hSw); go_simp; (try with_reducible rfl))
                  try simp only [Act.put, List.setIfInBounds_toArray, List.set_cons_zero, List.set_cons_succ]
                  refine wpAnyX_take (i := 6) (oi := _) (v := ?_) rfl (by kernel_rfl) (by kernel_rfl) (by kernel_rfl) (by kernel_rfl) (fun _ _ _ h => h) (Or.inl ⟨by rfl, ?_⟩) hS0 ?_
                  rotate_left 1
                  · (intro w hSw; (try dsimp only at hSw); go_simp; (try with_reducible rfl))
                  try simp only [Act.put, List.setIfInBounds_toArray, List.set_cons_zero, List.set_cons_succ]
                  refine wpAnyX_take (i := 7) (oi := _) (v := ?_) rfl (by kernel_rfl) (by kernel_rfl) (by kernel_rfl) (by kernel_rfl) (fun _ _ _ h => h) (Or.inl ⟨by rfl, ?_⟩) hS0 ?_
                  rotate_left 1
                  · (intro w hSw; (try dsimp only at hSw); go_simp; (try with_reducible rfl))
                  try simp only [Act.put, List.setIfInBounds_toArray, List.set_cons_zero, List.set_cons_succ]
                  refine wpAnyX_take (i := 8) (oi := _) (v := .bool true) rfl (by kernel_rfl) (by kernel_rfl) (by kernel_rfl) (by kernel_rfl) (fun _ _ _ h => h) (Or.inl ⟨by rfl, ?_⟩) hS0 ?_
                  · (intro w hSw; (try dsimp only at hSw); go_simp; (try (have h9 := HDE.out; simp [h9])))
                  try simp only [Act.put, List.setIfInBounds_toArray, List.set_cons_zero, List.set_cons_succ]
                  refine wpAnyX_one (i := 2) (o := _) rfl (by kernel_rfl) (fun K hK => ?_)
                  go_simp
                  refine (l7c (pa := p) (pb := p2) (by omega) (by omega) (p32 q5 ha) (p32 q5 hb) (p32 q5 ha2) (p32 q5 hb2) HCN.out _).mono ?_
                  rintro ee w6 ⟨rfl, hb6⟩
                  refine hK.out _ _ (fun _ => ?_) (fun hS1 => ?_)
                  · exact ⟨kcl hb6 (hS0.1), kcl hb6 (hS0.2.1), kcl hb6 (hS0.2.2.1), kcl hb6 (hS0.2.2.2.1), kcl hb6 (hS0.2.2.2.2.1), kcl hb6 (hS0.2.2.2.2.2.1), kcl hb6 (hS0.2.2.2.2.2.2)⟩
                  clear hK K
                  have hS1 := hS1 (by decide)
                  try simp only [Act.put, List.setIfInBounds_toArray, List.set_cons_zero, List.set_cons_succ]
                  refine wpAnyX_take (i := 9) (oi := _) (v := .bool false) rfl (by kernel_rfl) (by kernel_rfl) (by kernel_rfl) (by kernel_rfl) (fun _ _ _ h => h) (Or.inl ⟨by rfl, ?_⟩) hS1 ?_
                  · (intro w hSw; (try dsimp only at hSw); go_simp; (try (first | rfl | (simp; done))))
                  change wpAnyX _ _ _ _ _ _ _ _ (Act.put _ (some 71) _) _
                  try simp only [Act.put, List.setIfInBounds_toArray, List.set_cons_zero, List.set_cons_succ]
                  refine wpAnyX_done (by kernel_rfl) ?_ _
                  have hW6 : Below W3.heap.size W3 w6 := ⟨hb6.os, hb6.tape, hb6.output, hb6.size, hb6.block⟩
                  have hI6 : Below w2.heap.size w2 w6 := chn hI3 hW6 hI3.size
                  have X6 := lay (XX3.mono hW6)
                  go_wp2_with (fail)
                  go_roundg m2
                  case measure => omega
                  case rel =>
                    refine ⟨j + 1, by omega, by go_num, okJ_s HJ.out HY.out HEQ.out, ?_, ?_⟩
                    · exact X6.out
                    · exact hI6
              · have hdb : ((i : Int) - (j : Int) == (n : Int)) = false := by simpa using hd
                have hdb2 : ((i : Int) == (j : Int) + (n : Int)) = false := by simp; omega
                cases c
                · have HEQ : Hid (cAt (pv p a b) (pv p2 a2 b2) = decide ((i : Int) - (j : Int) = (n : Int))) := by show _ = _; rw [HCC.out, decide_eq_false hd]
                  have HCN : Hid ((!acB a b a2 b2) = true) := by show (!acB a b a2 b2) = true; rw [HC.out]; rfl
                  have HDE := lay (show ¬ ((i : Int) = (j : Int) + (n : Int)) by omega)
                  go_upto_region 12 with (fail)
                  obtain ⟨W3, hW3⟩ : ∃ W : World, W = wr.alloc (.cells #[.int .i64 (p2 : Int), .int .i64 (a2 : Int), .int .i64 (b2 : Int)] 43) := ⟨_, rfl⟩
                  obtain ⟨W3b, hW3b⟩ : ∃ b, b = wr.heap.size := ⟨_, rfl⟩
                  have XX3 : Bb W3 wo.heap.size 43 #[.int .i64 (p : Int), .int .i64 (a : Int), .int .i64 (b : Int)] := by rw [hW3]; exact XA.out.alloc _
                  have XY3 : Bb W3 W3b 43 #[.int .i64 (p2 : Int), .int .i64 (a2 : Int), .int .i64 (b2 : Int)] := by rw [hW3]; exact Bb.new hW3b
                  have XI3 : Bb W3 (w.heap.size) 53 #[.int .i64 (n : Int), .slice (some ⟨g, 0, none⟩) n c1, .slice (some ⟨h, 0, none⟩) n c2] := by rw [hW3]; exact Xi.out.alloc _
                  have hI3 : Below w2.heap.size w2 W3 := by rw [hW3]; exact hI.alloc hIs _
                  rw [← hW3, ← hW3b]
                  clear hW3 hW3b
                  have cx0 := XX3.c 0 rfl
                  have cx1 := XX3.c 1 rfl
                  have cx2 := XX3.c 2 rfl
                  have cy0 := XY3.c 0 rfl
                  have cy1 := XY3.c 1 rfl
                  have cy2 := XY3.c 2 rfl
                  have cn0 := XI3.c 0 rfl
                  have ejn : IntKind.i64.wrap ((j : Int) + (n : Int)) = (j : Int) + (n : Int) := IntWalk.i64_in _ (by omega)
                  have ycx0 : W3.drew.cell? ⟨wo.heap.size, 0, none⟩ = some (.int .i64 (p : Int)) := cx0
                  have ycx1 : W3.drew.cell? ⟨wo.heap.size, 1, none⟩ = some (.int .i64 (a : Int)) := cx1
                  have ycx2 : W3.drew.cell? ⟨wo.heap.size, 2, none⟩ = some (.int .i64 (b : Int)) := cx2
                  have ycy0 : W3.drew.cell? ⟨W3b, 0, none⟩ = some (.int .i64 (p2 : Int)) := cy0
                  have ycy1 : W3.drew.cell? ⟨W3b, 1, none⟩ = some (.int .i64 (a2 : Int)) := cy1
                  have ycy2 : W3.drew.cell? ⟨W3b, 2, none⟩ = some (.int .i64 (b2 : Int)) := cy2
                  have ycn0 : W3.drew.cell? ⟨w.heap.size, 0, none⟩ = some (.int .i64 (n : Int)) := cn0
                  refine wp_region_x (fun w' => w'.cell? ⟨wo.heap.size, 0, none⟩ = some (.int .i64 (p : Int)) ∧ w'.cell? ⟨wo.heap.size, 1, none⟩ = some (.int .i64 (a : Int)) ∧ w'.cell? ⟨wo.heap.size, 2, none⟩ = some (.int .i64 (b : Int)) ∧ w'.cell? ⟨W3b, 0, none⟩ = some (.int .i64 (p2 : Int)) ∧ w'.cell? ⟨W3b, 1, none⟩ = some (.int .i64 (a2 : Int)) ∧ w'.cell? ⟨W3b, 2, none⟩ = some (.int .i64 (b2 : Int)) ∧ w'.cell? ⟨w.heap.size, 0, none⟩ = some (.int .i64 (n : Int))) 1000 (by kernel_rfl) ⟨ycx0, ycx1, ycx2, ycy0, ycy1, ycy2, ycn0⟩ (fun hS0 => ?_)
                  refine wpAnyX_take (i := 0) (oi := _) (v := ?_) rfl (by kernel_rfl) (by kernel_rfl) (by kernel_rfl) (by kernel_rfl) (fun _ _ _ h => h) (Or.inl ⟨by rfl, ?_⟩) hS0 ?_
                  rotate_left 1
                  · (intro w hSw; (try dsimp only at hSw); go_simp; (try with_reducible rfl))
                  try simp only [Act.put, List.setIfInBounds_toArray, List.set_cons_zero, List.set_cons_succ]
                  refine wpAnyX_take (i := 1) (oi := _) (v := ?_) rfl (by kernel_rfl) (by kernel_rfl) (by kernel_rfl) (by kernel_rfl) (fun _ _ _ h => h) (Or.inl ⟨by rfl, ?_⟩) hS0 ?_
                  rotate_left 1
                  · (intro w hSw; (try dsimp only at hSw); go_simp; (try with_reducible rfl))
                  try simp only [Act.put, List.setIfInBounds_toArray, List.set_cons_zero, List.set_cons_succ]
                  refine wpAnyX_take (i := 3) (oi := _) (v := ?_) rfl (by kernel_rfl) (by kernel_rfl) (by kernel_rfl) (by kernel_rfl) (fun _ _ _ h => h) (Or.inl ⟨by rfl, ?_⟩) hS0 ?_
                  rotate_left 1
                  · (intro w hSw; (try dsimp only at hSw); go_simp; (try with_reducible rfl))
                  try simp only [Act.put, List.setIfInBounds_toArray, List.set_cons_zero, List.set_cons_succ]
                  refine wpAnyX_take (i := 4) (oi := _) (v := ?_) rfl (by kernel_rfl) (by kernel_rfl) (by kernel_rfl) (by kernel_rfl) (fun _ _ _ h => h) (Or.inl ⟨by rfl, ?_⟩) hS0 ?_
                  rotate_left 1
                  · (intro w hSw; (try dsimp only at hSw); go_simp; (try with_reducible rfl))
                  try simp only [Act.put, List.setIfInBounds_toArray, List.set_cons_zero, List.set_cons_succ]
                  refine wpAnyX_take (i := 5) (oi := _) (v := ?_) rfl (by kernel_rfl) (by kernel_rfl) (by kernel_rfl) (by kernel_rfl) (fun _ _ _ h => h) (Or.inl ⟨by rfl, ?_⟩) hS0 ?_
                  rotate_left 1
                  · (intro w hSw; (try dsimp only at hSw); go_simp; (try with_reducible rfl))
                  try simp only [Act.put, List.setIfInBounds_toArray, List.set_cons_zero, List.set_cons_succ]
                  refine wpAnyX_take (i := 6) (oi := _) (v := ?_) rfl (by kernel_rfl) (by kernel_rfl) (by kernel_rfl) (by kernel_rfl) (fun _ _ _ h => h) (Or.inl ⟨by rfl, ?_⟩) hS0 ?_
                  rotate_left 1
                  · (intro w hSw; (try dsimp only at hSw); go_simp; (try with_reducible rfl))
                  try simp only [Act.put, List.setIfInBounds_toArray, List.set_cons_zero, List.set_cons_succ]
                  refine wpAnyX_take (i := 7) (oi := _) (v := ?_) rfl (by kernel_rfl) (by kernel_rfl) (by kernel_rfl) (by kernel_rfl) (fun _ _ _ h => h) (Or.inl ⟨by rfl, ?_⟩) hS0 ?_
                  rotate_left 1
                  · (intro w hSw; (try dsimp only at hSw); go_simp; (try with_reducible rfl))
                  try simp only [Act.put, List.setIfInBounds_toArray, List.set_cons_zero, List.set_cons_succ]
                  refine wpAnyX_take (i := 8) (oi := _) (v := .bool false) rfl (by kernel_rfl) (by kernel_rfl) (by kernel_rfl) (by kernel_rfl) (fun _ _ _ h => h) (Or.inl ⟨by rfl, ?_⟩) hS0 ?_
                  · (intro w hSw; (try dsimp only at hSw); go_simp; (try (have h9 := HDE.out; simp [h9])))
                  try simp only [Act.put, List.setIfInBounds_toArray, List.set_cons_zero, List.set_cons_succ]
                  refine wpAnyX_one (i := 2) (o := _) rfl (by kernel_rfl) (fun K hK => ?_)
                  go_simp
                  refine (l7c (pa := p) (pb := p2) (by omega) (by omega) (p32 q5 ha) (p32 q5 hb) (p32 q5 ha2) (p32 q5 hb2) HCN.out _).mono ?_
                  rintro ee w6 ⟨rfl, hb6⟩
                  refine hK.out _ _ (fun _ => ?_) (fun hS1 => ?_)
                  · exact ⟨kcl hb6 (hS0.1), kcl hb6 (hS0.2.1), kcl hb6 (hS0.2.2.1), kcl hb6 (hS0.2.2.2.1), kcl hb6 (hS0.2.2.2.2.1), kcl hb6 (hS0.2.2.2.2.2.1), kcl hb6 (hS0.2.2.2.2.2.2)⟩
                  clear hK K
                  have hS1 := hS1 (by decide)
                  try simp only [Act.put, List.setIfInBounds_toArray, List.set_cons_zero, List.set_cons_succ]
                  refine wpAnyX_take (i := 9) (oi := _) (v := .bool false) rfl (by kernel_rfl) (by kernel_rfl) (by kernel_rfl) (by kernel_rfl) (fun _ _ _ h => h) (Or.inl ⟨by rfl, ?_⟩) hS1 ?_
                  · (intro w hSw; (try dsimp only at hSw); go_simp; (try (first | rfl | (simp; done))))
                  change wpAnyX _ _ _ _ _ _ _ _ (Act.put _ (some 71) _) _
                  try simp only [Act.put, List.setIfInBounds_toArray, List.set_cons_zero, List.set_cons_succ]
                  refine wpAnyX_done (by kernel_rfl) ?_ _
                  have hW6 : Below W3.heap.size W3 w6 := ⟨hb6.os, hb6.tape, hb6.output, hb6.size, hb6.block⟩
                  have hI6 : Below w2.heap.size w2 w6 := chn hI3 hW6 hI3.size
                  have X6 := lay (XX3.mono hW6)
                  go_wp2_with (fail)
                  go_roundg m2
                  case measure => omega
                  case rel =>
                    refine ⟨j + 1, by omega, by go_num, okJ_s HJ.out HY.out HEQ.out, ?_, ?_⟩
                    · exact X6.out
                    · exact hI6
                · have HH : Hid (false = t) := tF HT.out (fun h => by have h9 := (h i _ hlt HX.out).2.2 j _ hjt HY.out; rw [HCC.out, decide_eq_false hd] at h9; cases h9)
                  have HCN : Hid ((!acB a b a2 b2) = false) := by show (!acB a b a2 b2) = false; rw [HC.out]; rfl
                  have HDE := lay (show ¬ ((i : Int) = (j : Int) + (n : Int)) by omega)
                  go_upto_region 12 with (fail)
                  obtain ⟨W3, hW3⟩ : ∃ W : World, W = wr.alloc (.cells #[.int .i64 (p2 : Int), .int .i64 (a2 : Int), .int .i64 (b2 : Int)] 43) := ⟨_, rfl⟩
                  obtain ⟨W3b, hW3b⟩ : ∃ b, b = wr.heap.size := ⟨_, rfl⟩
                  have XX3 : Bb W3 wo.heap.size 43 #[.int .i64 (p : Int), .int .i64 (a : Int), .int .i64 (b : Int)] := by rw [hW3]; exact XA.out.alloc _
                  have XY3 : Bb W3 W3b 43 #[.int .i64 (p2 : Int), .int .i64 (a2 : Int), .int .i64 (b2 : Int)] := by rw [hW3]; exact Bb.new hW3b
                  have XI3 : Bb W3 (w.heap.size) 53 #[.int .i64 (n : Int), .slice (some ⟨g, 0, none⟩) n c1, .slice (some ⟨h, 0, none⟩) n c2] := by rw [hW3]; exact Xi.out.alloc _
                  have hI3 : Below w2.heap.size w2 W3 := by rw [hW3]; exact hI.alloc hIs _
                  rw [← hW3, ← hW3b]
                  clear hW3 hW3b
                  have cx0 := XX3.c 0 rfl
                  have cx1 := XX3.c 1 rfl
                  have cx2 := XX3.c 2 rfl
                  have cy0 := XY3.c 0 rfl
                  have cy1 := XY3.c 1 rfl
                  have cy2 := XY3.c 2 rfl
                  have cn0 := XI3.c 0 rfl
                  have ejn : IntKind.i64.wrap ((j : Int) + (n : Int)) = (j : Int) + (n : Int) := IntWalk.i64_in _ (by omega)
                  have ycx0 : W3.drew.cell? ⟨wo.heap.size, 0, none⟩ = some (.int .i64 (p : Int)) := cx0
                  have ycx1 : W3.drew.cell? ⟨wo.heap.size, 1, none⟩ = some (.int .i64 (a : Int)) := cx1
                  have ycx2 : W3.drew.cell? ⟨wo.heap.size, 2, none⟩ = some (.int .i64 (b : Int)) := cx2
                  have ycy0 : W3.drew.cell? ⟨W3b, 0, none⟩ = some (.int .i64 (p2 : Int)) := cy0
                  have ycy1 : W3.drew.cell? ⟨W3b, 1, none⟩ = some (.int .i64 (a2 : Int)) := cy1
                  have ycy2 : W3.drew.cell? ⟨W3b, 2, none⟩ = some (.int .i64 (b2 : Int)) := cy2
                  have ycn0 : W3.drew.cell? ⟨w.heap.size, 0, none⟩ = some (.int .i64 (n : Int)) := cn0
                  refine wp_region_x (fun w' => w'.cell? ⟨wo.heap.size, 0, none⟩ = some (.int .i64 (p : Int)) ∧ w'.cell? ⟨wo.heap.size, 1, none⟩ = some (.int .i64 (a : Int)) ∧ w'.cell? ⟨wo.heap.size, 2, none⟩ = some (.int .i64 (b : Int)) ∧ w'.cell? ⟨W3b, 0, none⟩ = some (.int .i64 (p2 : Int)) ∧ w'.cell? ⟨W3b, 1, none⟩ = some (.int .i64 (a2 : Int)) ∧ w'.cell? ⟨W3b, 2, none⟩ = some (.int .i64 (b2 : Int)) ∧ w'.cell? ⟨w.heap.size, 0, none⟩ = some (.int .i64 (n : Int))) 1000 (by kernel_rfl) ⟨ycx0, ycx1, ycx2, ycy0, ycy1, ycy2, ycn0⟩ (fun hS0 => ?_)
                  refine wpAnyX_take (i := 0) (oi := _) (v := ?_) rfl (by kernel_rfl) (by kernel_rfl) (by kernel_rfl) (by kernel_rfl) (fun _ _ _ h => h) (Or.inl ⟨by rfl, ?_⟩) hS0 ?_
                  rotate_left 1
                  · (intro w hSw; (try dsimp only at hSw); go_simp; (try with_reducible rfl))
                  try simp only [Act.put, List.setIfInBounds_toArray, List.set_cons_zero, List.set_cons_succ]
                  refine wpAnyX_take (i := 1) (oi := _) (v := ?_) rfl (by kernel_rfl) (by kernel_rfl) (by kernel_rfl) (by kernel_rfl) (fun _ _ _ h => h) (Or.inl ⟨by rfl, ?_⟩) hS0 ?_
                  rotate_left 1
                  · (intro w hSw; (try dsimp only at hSw); go_simp; (try with_reducible rfl))
                  try simp only [Act.put, List.setIfInBounds_toArray, List.set_cons_zero, List.set_cons_succ]
                  refine wpAnyX_take (i := 3) (oi := _) (v := ?_) rfl (by kernel_rfl) (by kernel_rfl) (by kernel_rfl) (by kernel_rfl) (fun _ _ _ h => h) (Or.inl ⟨by rfl, ?_⟩) hS0 ?_
                  rotate_left 1
                  · (intro w hSw; (try dsimp only at hSw); go_simp; (try with_reducible rfl))
                  try simp only [Act.put, List.setIfInBounds_toArray, List.set_cons_zero, List.set_cons_succ]
                  refine wpAnyX_take (i := 4) (oi := _) (v := ?_) rfl (by kernel_rfl) (by kernel_rfl) (by kernel_rfl) (by kernel_rfl) (fun _ _ _ h => h) (Or.inl ⟨by rfl, ?_⟩) hS0 ?_
                  rotate_left 1
                  · (intro w hSw; (try dsimp only at hSw); go_simp; (try with_reducible rfl))
                  try simp only [Act.put, List.setIfInBounds_toArray, List.set_cons_zero, List.set_cons_succ]
                  refine wpAnyX_take (i := 5) (oi := _) (v := ?_) rfl (by kernel_rfl) (by kernel_rfl) (by kernel_rfl) (by kernel_rfl) (fun _ _ _ h => h) (Or.inl ⟨by rfl, ?_⟩) hS0 ?_
                  rotate_left 1
                  · (intro w hSw; (try dsimp only at hSw); go_simp; (try with_reducible rfl))
                  try simp only [Act.put, List.setIfInBounds_toArray, List.set_cons_zero, List.set_cons_succ]
                  refine wpAnyX_take (i := 6) (oi := _) (v := ?_) rfl (by kernel_rfl) (by kernel_rfl) (by kernel_rfl) (by kernel_rfl) (fun _ _ _ h => h) (Or.inl ⟨by rfl, ?_⟩) hS0 ?_
                  rotate_left 1
                  · (intro w hSw; (try dsimp only at hSw); go_simp; (try with_reducible rfl))
                  try simp only [Act.put, List.setIfInBounds_toArray, List.set_cons_zero, List.set_cons_succ]
                  refine wpAnyX_take (i := 7) (oi := _) (v := ?_) rfl (by kernel_rfl) (by kernel_rfl) (by kernel_rfl) (by kernel_rfl) (fun _ _ _ h => h) (Or.inl ⟨by rfl, ?_⟩) hS0 ?_
                  rotate_left 1
                  · (intro w hSw; (try dsimp only at hSw); go_simp; (try with_reducible rfl))
                  try simp only [Act.put, List.setIfInBounds_toArray, List.set_cons_zero, List.set_cons_succ]
                  refine wpAnyX_take (i := 8) (oi := _) (v := .bool false) rfl (by kernel_rfl) (by kernel_rfl) (by kernel_rfl) (by kernel_rfl) (fun _ _ _ h => h) (Or.inl ⟨by rfl, ?_⟩) hS0 ?_
                  · (intro w hSw; (try dsimp only at hSw); go_simp; (try (have h9 := HDE.out; simp [h9])))
                  try simp only [Act.put, List.setIfInBounds_toArray, List.set_cons_zero, List.set_cons_succ]
                  refine wpAnyX_one (i := 2) (o := _) rfl (by kernel_rfl) (fun K hK => ?_)
                  go_simp
                  refine (l7c (pa := p) (pb := p2) (by omega) (by omega) (p32 q5 ha) (p32 q5 hb) (p32 q5 ha2) (p32 q5 hb2) HCN.out _).mono ?_
                  rintro ee w6 ⟨rfl, hb6⟩
                  refine hK.out _ _ (fun _ => ?_) (fun hS1 => ?_)
                  · exact ⟨kcl hb6 (hS0.1), kcl hb6 (hS0.2.1), kcl hb6 (hS0.2.2.1), kcl hb6 (hS0.2.2.2.1), kcl hb6 (hS0.2.2.2.2.1), kcl hb6 (hS0.2.2.2.2.2.1), kcl hb6 (hS0.2.2.2.2.2.2)⟩
                  clear hK K
                  have hS1 := hS1 (by decide)
                  try simp only [Act.put, List.setIfInBounds_toArray, List.set_cons_zero, List.set_cons_succ]
                  refine wpAnyX_take (i := 9) (oi := _) (v := .bool true) rfl (by kernel_rfl) (by kernel_rfl) (by kernel_rfl) (by kernel_rfl) (fun _ _ _ h => h) (Or.inl ⟨by rfl, ?_⟩) hS1 ?_
                  · (intro w hSw; (try dsimp only at hSw); go_simp; (try (first | rfl | (simp; done))))
                  change wpAnyX _ _ _ _ _ _ _ _ (Act.put _ (some 71) _) _
                  try simp only [Act.put, List.setIfInBounds_toArray, List.set_cons_zero, List.set_cons_succ]
                  refine wpAnyX_done (by kernel_rfl) ?_ _
                  have hW6 : Below W3.heap.size W3 w6 := ⟨hb6.os, hb6.tape, hb6.output, hb6.size, hb6.block⟩
                  have hI6 : Below w2.heap.size w2 w6 := chn hI3 hW6 hI3.size
                  have X6 := lay (XX3.mono hW6)
                  go_upto_region 13 with (fail)
                  go_cut [2] (fun s2 wx => s2 = .bool false ∧ Below w.heap.size w wx)
                  case first =>
                    go_wp2_with (fail)
                    go_meet
                    refine ⟨rfl, ?_⟩
                    have hBr := chn hB2 hI6 hB2.size
                    (repeat' (first | (with_reducible exact Below.refl _ _) | (with_reducible assumption) | (with_reducible refine Below.alloc ?_ ?_ _) | (with_reducible refine Below.drew ?_) | (with_reducible refine bdN ?_ _) | (with_reducible refine Below.setCell ?_ ?_ _) | (with_reducible refine chn ?_ (by assumption) ?_) | omega | (simp; done) | (simp; omega)))
                  case rest =>
                    obtain ⟨rfl, HBc⟩ := hcut
                    apply_assumption
                    refine wp_ret ?_
                    simp only [Exit.inBlock, Exit.then]
                    refine bodyPost_ret (v := .bool false) (by simp [results, Try.results97, go_sem]) rfl ?_
                    exact ⟨ret_bool HH.out, HBc⟩
        · subst hu1
          have HH : Hid (false = t) := tF HT.out (fun h => by have h9 := (h i _ hlt HX.out).2.1; have h8 : ((p : Int)) % 2 = 0 := h9; omega)
          clear hu
          go_wp2_with ((go_at_call 71; ((with_reducible refine (l7v (x := pv p a b) HK.out _).mono ?_); rintro ee w4 ⟨rfl, hb4⟩; obtain ⟨hc4, hf4, _⟩ := bcl hb4; have hz4 := hb4.size; (try simp at hz4); (try have hx40 : wo.heap.size < w4.heap.size := (by omega)); (try have hx41 : wo.heap.size + 1 < w4.heap.size := (by omega)); (try have hx42 : wo.heap.size + 1 + 1 < w4.heap.size := (by omega)); (try have hx43 : wo.heap.size + 1 + 1 + 1 < w4.heap.size := (by omega)))))
          go_ret
          refine ⟨ret_bool HH.out, ?_⟩
          have hBr := chn hB2 hR hB2.size
          (repeat' (first | (with_reducible exact Below.refl _ _) | (with_reducible assumption) | (with_reducible refine Below.alloc ?_ ?_ _) | (with_reducible refine Below.drew ?_) | (with_reducible refine bdN ?_ _) | (with_reducible refine Below.setCell ?_ ?_ _) | (with_reducible refine chn ?_ (by assumption) ?_) | omega | (simp; done) | (simp; omega)))
end Go.Proofs.Ytjedpeoafpljhaa.C4
