/- InvertTableau: the model. -/
import Derived.Test.YtjedpeoafpljhaaE8y
import Derived.Test.YtjedpeoafpljhaaE8x
import Derived.Test.YtjedpeoafpljhaaPcs
namespace Go.Proofs.Ytjedpeoafpljhaa.C4
open Go.RowKit
set_option linter.unusedVariables false
set_option linter.unusedSimpArgs false
attribute [local irreducible] World.setCell

open GM
set_option maxRecDepth 100000 in
set_option maxHeartbeats 16000000 in
theorem l7inv {n c1 c2 : Nat} {A1 A2 : Option Addr} {xs zs : List PauliV} {w : World} (q1 : 1 ≤ n) (q5 : n ≤ 5) (hS : Sym n xs zs) (hA : Rd pauliE w A1 xs) (hB : Rd pauliE w A2 zs) (hx : okL n xs) (hz : okL n zs) :
    Calls Try.prog 98 #[tableauV (n : Int) A1 n c1 A2 n c2] w fun ee w' => ∃ vx vz : Value, ee = .returned (.agg #[.int .i64 (n : Int), vx, vz]) ∧ Ow2 w' w.heap.size vx vz (tab n (invX n xs zs)) (tab n (invZ n xs zs)) ∧ Below w.heap.size w w' := by
  obtain ⟨i0, hi0, iz0, iz1, iz2⟩ := info_parts infoPauli
  have HSY := lay hS
  have HA := lay hA
  have HB := lay hB
  have OX := lay hx
  have OZ := lay hz
  clear hS hA hB hx hz
  go_enter Try.func98, Try.ntmps98
  go_wp2_with (fail)
  go_loopg [4] n (fun k s1 wr => ∃ (j : Nat) (X1 : Option Addr) (k1 : Nat) (Z1 : Option Addr) (k2 : Nat), j + k = n ∧ s1 = .int .i64 (j : Int) ∧ Hid (Bb wr (w.heap.size) 53 #[.int .i64 (n : Int), .slice A1 n c1, .slice A2 n c2]) ∧ Hid (Bb wr (w.heap.size + 1) 53 #[.int .i64 0, .slice none 0 0, .slice none 0 0]) ∧ Hid (Bb wr (w.heap.size + 1 + 1) 53 #[.int .i64 (n : Int), .slice X1 j k1, .slice Z1 j k2]) ∧ Hid (Ow2 wr (w.heap.size + 1 + 1 + 1) (.slice X1 j k1) (.slice Z1 j k2) (tab j (invX n xs zs)) (tab j (invZ n xs zs))) ∧ (w.heap.size + 1 + 1 + 1) ≤ wr.heap.size ∧ Below w.heap.size w wr)
  case atStart =>
    refine ⟨0, none, 0, none, 0, by omega, rfl, ?_, ?_, ?_, ⟨Own.nil _ _ _, Own.nil _ _ _, fun b hb => by cases hb⟩, by simp, ?_⟩
    · show Bb _ _ _ _; (repeat' (first | (with_reducible assumption) | (refine Bb.new (by first | (with_reducible rfl) | (simp; done))) | (with_reducible refine Bb.alloc ?_ _) | (with_reducible refine Bb.drew ?_) | (with_reducible refine Bb.drewN ?_ _) | (with_reducible refine Bb.mono ?_ (by assumption)) | (with_reducible refine Bb.far ?_ (by (try simp only [World.size_alloc, World.size_drew]); omega)) | (with_reducible refine Bb.set ?_ rfl) | (with_reducible refine Bb.grown ?_ (by assumption) (by assumption))))
    · show Bb _ _ _ _; exact Bb.alloc (Bb.new (by simp)) _
    · show Bb _ _ _ _; exact Bb.new (by simp)
    · (repeat' (first | (with_reducible exact Below.refl _ _) | (with_reducible assumption) | (with_reducible refine Below.alloc ?_ ?_ _) | (with_reducible refine Below.drew ?_) | (with_reducible refine bdN ?_ _) | (with_reducible refine Below.setCell ?_ ?_ _) | (with_reducible refine chn ?_ (by assumption) ?_) | omega | (simp; done) | (simp; omega)))
  case round =>
    obtain ⟨j, X1, k1, Z1, k2, hj, rfl, Xt, Xz, Xo, HO, hszr, hBr⟩ := hrel
    have hBs := hBr.size
    have ct0 := Xt.out.c 0 rfl
    have ct1 := Xt.out.c 1 rfl
    have ct2 := Xt.out.c 2 rfl
    have cz0 := Xz.out.c 0 rfl
    have cz1 := Xz.out.c 1 rfl
    have cz2 := Xz.out.c 2 rfl
    have co0 := Xo.out.c 0 rfl
    have co1 := Xo.out.c 1 rfl
    have co2 := Xo.out.c 2 rfl
    have lt := Xt.out.lt
    have lz := Xz.out.lt
    have lo := Xo.out.lt
    have fz := Xz.out.f
    cases gk with
    | zero =>
      obtain rfl : n = j := by omega
      have K9 := HO.out
      go_upto_region 7 with (fail)
      (repeat (first | go_values | go_skip | go_guarded | go_step | go_upon))
      refine bodyPost_ret (v := .agg #[.int .i64 (n : Int), .slice X1 n k1, .slice Z1 n k2]) (by first | (simp [results, Try.results98, go_sem, *]; done) | (simp (disch := (first | omega | (simp; done) | (simp; omega))) [results, Try.results98, go_sem, *]; done) | (simp only [results, Try.results98]; go_simp; done)) rfl ⟨_, _, rfl, ?_, ?_⟩
      · exact (((K9.far (by show w.heap.size + 1 < _; omega) _).far (by show w.heap.size + 1 < _; omega) _).far (by show w.heap.size + 1 < _; omega) _).dn (by omega)
      · (repeat' (first | (with_reducible exact Below.refl _ _) | (with_reducible assumption) | (with_reducible refine Below.alloc ?_ ?_ _) | (with_reducible refine Below.drew ?_) | (with_reducible refine bdN ?_ _) | (with_reducible refine Below.setCell ?_ ?_ _) | (with_reducible refine chn ?_ (by assumption) ?_) | omega | (simp; done) | (simp; omega)))
    | succ m =>
      have hlt : j < n := by omega
      have jl : (j : Int) < (n : Int) := by omega
      have hmax : j + 1 ≤ maxLen := by unfold maxLen; omega
      have hby : (j + 1) * 24 ≤ 140737488355328 := by omega
      have e1 := pw_w (show j ≤ 5 by omega)
      have e2 := pw_k (show j ≤ 5 by omega)
      have iu : IntKind.u64.wrap ((j : Int)) = (j : Int) := IntWalk.u64_in _ (by omega)
      have hpw : pw j < 2 ^ n := Nat.pow_lt_pow_right (by decide) hlt
      have hp0 : 0 < 2 ^ n := Nat.two_pow_pos n
      obtain ⟨P1, hP1⟩ : ∃ P, P = (imgS (fnd zs (0, pw j, 0) n) (fnd xs (0, pw j, 0) n) xs zs 0 n).1 := ⟨_, rfl⟩
      obtain ⟨P2, hP2⟩ : ∃ P, P = (imgS (fnd zs (0, 0, pw j) n) (fnd xs (0, 0, pw j) n) xs zs 0 n).1 := ⟨_, rfl⟩
      have hq1 : imgS (fnd zs (0, pw j, 0) n) (fnd xs (0, pw j, 0) n) xs zs 0 n = (P1, pw j, 0) := Prod.ext hP1.symm (img_found HSY.out OX.out OZ.out (p := (0, pw j, 0)) hpw hp0)
      have hq2 : imgS (fnd zs (0, 0, pw j) n) (fnd xs (0, 0, pw j) n) xs zs 0 n = (P2, 0, pw j) := Prod.ext hP2.symm (img_found HSY.out OX.out OZ.out (p := (0, 0, pw j)) hp0 hpw)
      have VX : Hid (pv P1 (fnd zs (0, pw j, 0) n) (fnd xs (0, pw j, 0) n) = invX n xs zs j) := preV_of hq1
      have VZ : Hid (pv P2 (fnd zs (0, 0, pw j) n) (fnd xs (0, 0, pw j) n) = invZ n xs zs j) := preV_of hq2
      have hr1 := lay hq1
      have hr2 := lay hq2
      clear hq1 hq2 hP1 hP2
      go_upto_region 5 with (fail)
      have ne0 : some w.heap.size ≠ (Value.slice X1 j k1).ownBlock := HO.out.neX (by omega)
      have nez : some (w.heap.size + 1) ≠ (Value.slice X1 j k1).ownBlock := HO.out.neX (by omega)
      have neo : some (w.heap.size + 1 + 1) ≠ (Value.slice X1 j k1).ownBlock := HO.out.neX (by omega)
      have yct0 : wr.drew.cell? ⟨w.heap.size, 0, none⟩ = some (.int .i64 (n : Int)) := ct0
      have yct1 : wr.drew.cell? ⟨w.heap.size, 1, none⟩ = some (.slice A1 n c1) := ct1
      have yct2 : wr.drew.cell? ⟨w.heap.size, 2, none⟩ = some (.slice A2 n c2) := ct2
      have yco0 : wr.drew.cell? ⟨w.heap.size + 1 + 1, 0, none⟩ = some (.int .i64 (n : Int)) := co0
      have yco1 : wr.drew.cell? ⟨w.heap.size + 1 + 1, 1, none⟩ = some (.slice X1 j k1) := co1
      have yco2 : wr.drew.cell? ⟨w.heap.size + 1 + 1, 2, none⟩ = some (.slice Z1 j k2) := co2
      refine wp_region_x (fun w' => w'.cell? ⟨w.heap.size, 0, none⟩ = some (.int .i64 (n : Int)) ∧ w'.cell? ⟨w.heap.size, 1, none⟩ = some (.slice A1 n c1) ∧ w'.cell? ⟨w.heap.size, 2, none⟩ = some (.slice A2 n c2) ∧ w'.cell? ⟨w.heap.size + 1 + 1, 0, none⟩ = some (.int .i64 (n : Int)) ∧ w'.cell? ⟨w.heap.size + 1 + 1, 1, none⟩ = some (.slice X1 j k1) ∧ w'.cell? ⟨w.heap.size + 1 + 1, 2, none⟩ = some (.slice Z1 j k2)) 11 (by kernel_rfl) ⟨yct0, yct1, yct2, yco0, yco1, yco2⟩ (fun hS0 => ?_)
      refine wpAnyX_take (i := 0) (oi := _) (v := ?_) rfl (by kernel_rfl) (by kernel_rfl) (by kernel_rfl) (by kernel_rfl) (fun _ _ _ h => h) (Or.inl ⟨by rfl, ?_⟩) hS0 ?_
      rotate_left 1
      · (intro w hSw; (try dsimp only at hSw); go_simp; (try with_reducible rfl))
      try simp only [Act.put, List.setIfInBounds_toArray, List.set_cons_zero, List.set_cons_succ]
      refine wpAnyX_take (i := 1) (oi := _) (v := ?_) rfl (by kernel_rfl) (by kernel_rfl) (by kernel_rfl) (by kernel_rfl) (fun _ _ _ h => h) (Or.inl ⟨by rfl, ?_⟩) hS0 ?_
      rotate_left 1
      · (intro w hSw; (try dsimp only at hSw); go_simp; (try with_reducible rfl))
      try simp only [Act.put, List.setIfInBounds_toArray, List.set_cons_zero, List.set_cons_succ]
      refine wpAnyX_take (i := 2) (oi := _) (v := ?_) rfl (by kernel_rfl) (by kernel_rfl) (by kernel_rfl) (by kernel_rfl) (fun _ _ _ h => h) (Or.inl ⟨by rfl, ?_⟩) hS0 ?_
      rotate_left 1
      · (intro w hSw; (try dsimp only at hSw); go_simp; (try with_reducible rfl))
      try simp only [Act.put, List.setIfInBounds_toArray, List.set_cons_zero, List.set_cons_succ]
      refine wpAnyX_take (i := 3) (oi := _) (v := ?_) rfl (by kernel_rfl) (by kernel_rfl) (by kernel_rfl) (by kernel_rfl) (fun _ _ _ h => h) (Or.inl ⟨by rfl, ?_⟩) hS0 ?_
      rotate_left 1
      · (intro w hSw; (try dsimp only at hSw); go_simp; (try with_reducible rfl))
      try simp only [Act.put, List.setIfInBounds_toArray, List.set_cons_zero, List.set_cons_succ]
      refine wpAnyX_take (i := 4) (oi := _) (v := ?_) rfl (by kernel_rfl) (by kernel_rfl) (by kernel_rfl) (by kernel_rfl) (fun _ _ _ h => h) (Or.inl ⟨by rfl, ?_⟩) hS0 ?_
      rotate_left 1
      · (intro w hSw; (try dsimp only at hSw); go_simp; (try with_reducible rfl))
      try simp only [Act.put, List.setIfInBounds_toArray, List.set_cons_zero, List.set_cons_succ]
      refine wpAnyX_take (i := 5) (oi := _) (v := ?_) rfl (by kernel_rfl) (by kernel_rfl) (by kernel_rfl) (by kernel_rfl) (fun _ _ _ h => h) (Or.inl ⟨by rfl, ?_⟩) hS0 ?_
      rotate_left 1
      · (intro w hSw; (try dsimp only at hSw); go_simp; (try with_reducible rfl))
      try simp only [Act.put, List.setIfInBounds_toArray, List.set_cons_zero, List.set_cons_succ]
      refine wpAnyX_take (i := 6) (oi := _) (v := ?_) rfl (by kernel_rfl) (by kernel_rfl) (by kernel_rfl) (by kernel_rfl) (fun _ _ _ h => h) (Or.inl ⟨by rfl, ?_⟩) hS0 ?_
      rotate_left 1
      · (intro w hSw; (try dsimp only at hSw); go_simp; (try with_reducible rfl))
      try simp only [Act.put, List.setIfInBounds_toArray, List.set_cons_zero, List.set_cons_succ]
      refine wpAnyX_one (i := 7) (o := _) rfl (by kernel_rfl) (fun K hK => ?_)
      go_simp
      refine (l7bef (xs := xs) (zs := zs) (PX := pw j) (PZ := 0) (X := fnd zs (0, pw j, 0) n) (Z := fnd xs (0, pw j, 0) n) (D := pw n) q1 q5 rfl HSY.out (hpw) (hp0) ?_ ?_ OX.out OZ.out rfl rfl hr1.out).mono ?_
      · exact (show Rd pauliE wr _ xs from HA.out.mono hBr)
      · exact (show Rd pauliE wr _ zs from HB.out.mono hBr)
      rintro ee w9 ⟨rfl, hb9⟩
      have hWq : Below wr.heap.size wr w9 := ⟨hb9.os, hb9.tape, hb9.output, hb9.size, hb9.block⟩
      have hzq := hWq.size
      have HO9 := lay (HO.out.mono hWq)
      refine hK.out _ _ (fun _ => ?_) (fun hS1 => ?_)
      · exact ⟨kcl hb9 (hS0.1), kcl hb9 (hS0.2.1), kcl hb9 (hS0.2.2.1), kcl hb9 (hS0.2.2.2.1), kcl hb9 (hS0.2.2.2.2.1), kcl hb9 (hS0.2.2.2.2.2)⟩
      clear hK K
      have hS1 := hS1 (by decide)
      try simp only [Act.put, List.setIfInBounds_toArray, List.set_cons_zero, List.set_cons_succ]
      refine wpAnyX_one (i := 8) (o := _) rfl (by kernel_rfl) (fun K hK => ?_)
      go_simp
      refine hK.out _ _ (fun _ => ?_) (fun hS2 => ?_)
      · first | exact ⟨kclAl (hS1.1), kclAl (hS1.2.1), kclAl (hS1.2.2.1), kclAl (hS1.2.2.2.1), kclAl (hS1.2.2.2.2.1), kclAl (hS1.2.2.2.2.2)⟩ | exact ⟨kclAld (hS1.1), kclAld (hS1.2.1), kclAld (hS1.2.2.1), kclAld (hS1.2.2.2.1), kclAld (hS1.2.2.2.2.1), kclAld (hS1.2.2.2.2.2)⟩
      clear hK K
      have hS2 := hS2 (by decide)
      try simp only [Act.put, List.setIfInBounds_toArray, List.set_cons_zero, List.set_cons_succ]
      refine wpAnyX_one (i := 9) (o := _) rfl (by kernel_rfl) (fun K hK => ?_)
      refine step_app1 (E := pauliE) rfl _ _ _ (by rfl) (w.heap.size + 1 + 1 + 1) 43 i0 _ 24 Try.underlying51 hi0 iz0 iz1 iz2 rfl _ _ j (tab_len _ _) (by rfl) (HO9.out.alloc _).1 w9.heap.size 1 (pv P1 (fnd zs (0, pw j, 0) n) (fnd xs (0, pw j, 0) n)) #[.int .i64 (P1 : Int), .int .i64 ((fnd zs (0, pw j, 0) n : Nat) : Int), .int .i64 ((fnd xs (0, pw j, 0) n : Nat) : Int)] rfl (by rfl) (heap_alloc_new _ _) hmax hby (by simp only [World.size_alloc]; omega) ?_
      intro A10 cp10 w10 hO10 hG10 hat10
      have YO := ((Xo.out.mono hWq).alloc (.cells #[.int .i64 (P1 : Int), .int .i64 ((fnd zs (0, pw j, 0) n : Nat) : Int), .int .i64 ((fnd xs (0, pw j, 0) n : Nat) : Int)] 43)).grown hG10 neo
      refine hK.out _ _ (fun _ => ?_) (fun hS3 => ?_)
      · exact ⟨hG10.cell (hS2.1) ne0, hG10.cell (hS2.2.1) ne0, hG10.cell (hS2.2.2.1) ne0, hG10.cell (hS2.2.2.2.1) neo, hG10.cell (hS2.2.2.2.2.1) neo, hG10.cell (hS2.2.2.2.2.2) neo⟩
      clear hK K
      have hS3 := hS3 (by decide)
      try simp only [Act.put, List.setIfInBounds_toArray, List.set_cons_zero, List.set_cons_succ]
      refine wpAnyX_take (i := 10) (oi := _) (v := ?_) rfl (by kernel_rfl) (by kernel_rfl) (by kernel_rfl) (by kernel_rfl) (fun _ _ _ h => h) (Or.inl ⟨by rfl, ?_⟩) hS3 ?_
      rotate_left 1
      · (intro w hSw; (try dsimp only at hSw); go_simp; (try with_reducible rfl))
      change wpAnyX _ _ _ _ _ _ _ _ (Act.put _ (some 24) _) _
      try simp only [Act.put, List.setIfInBounds_toArray, List.set_cons_zero, List.set_cons_succ]
      refine wpAnyX_one (i := 11) (o := _) rfl (by kernel_rfl) (fun K hK => ?_)
      have yo0 := YO.c 0 rfl
      have yo1 := YO.c 1 rfl
      have yo2 := YO.c 2 rfl
      have yof := YO.f
      go_simp
      refine hK.out _ _ (fun h => absurd rfl h) (fun _ => ?_)
      clear hK K
      try simp only [Act.put, List.setIfInBounds_toArray, List.set_cons_zero, List.set_cons_succ]
      refine wpAnyX_done (by kernel_rfl) ?_ _
      have hzg := hG10.size
      simp only [World.size_alloc] at hzg
      have hBg : Below w.heap.size w w10 := Below.grown ((chn hBr hWq hBr.size).alloc (Nat.le_trans hBr.size hzq) _) hG10 (by simp only [World.size_alloc]; have := hBr.size; omega) (fun r hr => by have := (HO9.out.1.lt r hr).1; omega)
      go_upto_region 6 with (fail)
      obtain ⟨w5, hw⟩ : ∃ W, W = w10.setCell ⟨w.heap.size + 1 + 1, 1, none⟩ (.slice A10 (j + 1) cp10) := ⟨_, rfl⟩
      have Yt : Hid (Bb w5 (w.heap.size) 53 #[.int .i64 (n : Int), .slice A1 n c1, .slice A2 n c2]) := by show Bb _ _ _ _; rw [hw]; exact (((Xt.out.mono hWq).alloc _).grown hG10 ne0).far (by omega)
      have Yz : Hid (Bb w5 (w.heap.size + 1) 53 #[.int .i64 0, .slice none 0 0, .slice none 0 0]) := by show Bb _ _ _ _; rw [hw]; exact (((Xz.out.mono hWq).alloc _).grown hG10 nez).far (by omega)
      have Yo : Hid (Bb w5 (w.heap.size + 1 + 1) 53 #[.int .i64 (n : Int), .slice A10 (j + 1) cp10, .slice Z1 j k2]) := by show Bb _ _ _ _; rw [hw]; exact YO.set rfl
      have Y1 : Hid (Ow2 w5 (w.heap.size + 1 + 1 + 1) (.slice A10 (j + 1) cp10) (.slice Z1 j k2) (tab (j + 1) (invX n xs zs)) (tab j (invZ n xs zs))) := by
        show Ow2 _ _ _ _ _ _
        have h9 := Ow2.appX (HO9.out.alloc _) hO10 hG10 hat10
        rw [VX.out, ← tab_succ] at h9
        rw [hw]; exact h9.far (by show w.heap.size + 1 + 1 < _; omega) _
      have hB5 : Below w.heap.size w w5 := by rw [hw]; exact Below.setCell hBg (by show w.heap.size ≤ w.heap.size + 1 + 1; omega) _
      have hsz5 : (w.heap.size + 1 + 1 + 1) ≤ w5.heap.size := by rw [hw, World.size_setCell]; omega
      rw [← hw]
      clear hw
      clear Xt Xz Xo HO HO9 hWq hzq YO hO10 hG10 hat10 hzg hBg ne0 nez neo hS0 hS1 hS2 yo0 yo1 yo2 yof hb9
      clear ct0 ct1 ct2 cz0 cz1 cz2 co0 co1 co2 lt lz lo fz
      have Xt := Yt
      have Xz := Yz
      have Xo := Yo
      have HO := Y1
      clear Yt Yz Yo Y1
      have ct0 := Xt.out.c 0 rfl
      have ct1 := Xt.out.c 1 rfl
      have ct2 := Xt.out.c 2 rfl
      have cz0 := Xz.out.c 0 rfl
      have cz1 := Xz.out.c 1 rfl
      have cz2 := Xz.out.c 2 rfl
      have co0 := Xo.out.c 0 rfl
      have co1 := Xo.out.c 1 rfl
      have co2 := Xo.out.c 2 rfl
      have lt := Xt.out.lt
      have lz := Xz.out.lt
      have lo := Xo.out.lt
      have fz := Xz.out.f
      have ne0 : some w.heap.size ≠ (Value.slice Z1 j k2).ownBlock := HO.out.neZ (by omega)
      have nez : some (w.heap.size + 1) ≠ (Value.slice Z1 j k2).ownBlock := HO.out.neZ (by omega)
      have neo : some (w.heap.size + 1 + 1) ≠ (Value.slice Z1 j k2).ownBlock := HO.out.neZ (by omega)
      have yct0 : w5.drew.cell? ⟨w.heap.size, 0, none⟩ = some (.int .i64 (n : Int)) := ct0
      have yct1 : w5.drew.cell? ⟨w.heap.size, 1, none⟩ = some (.slice A1 n c1) := ct1
      have yct2 : w5.drew.cell? ⟨w.heap.size, 2, none⟩ = some (.slice A2 n c2) := ct2
      have yco0 : w5.drew.cell? ⟨w.heap.size + 1 + 1, 0, none⟩ = some (.int .i64 (n : Int)) := co0
      have yco1 : w5.drew.cell? ⟨w.heap.size + 1 + 1, 1, none⟩ = some (.slice A10 (j + 1) cp10) := co1
      have yco2 : w5.drew.cell? ⟨w.heap.size + 1 + 1, 2, none⟩ = some (.slice Z1 j k2) := co2
      refine wp_region_x (fun w' => w'.cell? ⟨w.heap.size, 0, none⟩ = some (.int .i64 (n : Int)) ∧ w'.cell? ⟨w.heap.size, 1, none⟩ = some (.slice A1 n c1) ∧ w'.cell? ⟨w.heap.size, 2, none⟩ = some (.slice A2 n c2) ∧ w'.cell? ⟨w.heap.size + 1 + 1, 0, none⟩ = some (.int .i64 (n : Int)) ∧ w'.cell? ⟨w.heap.size + 1 + 1, 1, none⟩ = some (.slice A10 (j + 1) cp10) ∧ w'.cell? ⟨w.heap.size + 1 + 1, 2, none⟩ = some (.slice Z1 j k2)) 11 (by kernel_rfl) ⟨yct0, yct1, yct2, yco0, yco1, yco2⟩ (fun hS0 => ?_)
      refine wpAnyX_take (i := 0) (oi := _) (v := ?_) rfl (by kernel_rfl) (by kernel_rfl) (by kernel_rfl) (by kernel_rfl) (fun _ _ _ h => h) (Or.inl ⟨by rfl, ?_⟩) hS0 ?_
      rotate_left 1
      · (intro w hSw; (try dsimp only at hSw); go_simp; (try with_reducible rfl))
      try simp only [Act.put, List.setIfInBounds_toArray, List.set_cons_zero, List.set_cons_succ]
      refine wpAnyX_take (i := 1) (oi := _) (v := ?_) rfl (by kernel_rfl) (by kernel_rfl) (by kernel_rfl) (by kernel_rfl) (fun _ _ _ h => h) (Or.inl ⟨by rfl, ?_⟩) hS0 ?_
      rotate_left 1
      · (intro w hSw; (try dsimp only at hSw); go_simp; (try with_reducible rfl))
      try simp only [Act.put, List.setIfInBounds_toArray, List.set_cons_zero, List.set_cons_succ]
      refine wpAnyX_take (i := 2) (oi := _) (v := ?_) rfl (by kernel_rfl) (by kernel_rfl) (by kernel_rfl) (by kernel_rfl) (fun _ _ _ h => h) (Or.inl ⟨by rfl, ?_⟩) hS0 ?_
      rotate_left 1
      · (intro w hSw; (try dsimp only at hSw); go_simp; (try with_reducible rfl))
      try simp only [Act.put, List.setIfInBounds_toArray, List.set_cons_zero, List.set_cons_succ]
      refine wpAnyX_take (i := 3) (oi := _) (v := ?_) rfl (by kernel_rfl) (by kernel_rfl) (by kernel_rfl) (by kernel_rfl) (fun _ _ _ h => h) (Or.inl ⟨by rfl, ?_⟩) hS0 ?_
      rotate_left 1
      · (intro w hSw; (try dsimp only at hSw); go_simp; (try with_reducible rfl))
      try simp only [Act.put, List.setIfInBounds_toArray, List.set_cons_zero, List.set_cons_succ]
      refine wpAnyX_take (i := 4) (oi := _) (v := ?_) rfl (by kernel_rfl) (by kernel_rfl) (by kernel_rfl) (by kernel_rfl) (fun _ _ _ h => h) (Or.inl ⟨by rfl, ?_⟩) hS0 ?_
      rotate_left 1
      · (intro w hSw; (try dsimp only at hSw); go_simp; (try with_reducible rfl))
      try simp only [Act.put, List.setIfInBounds_toArray, List.set_cons_zero, List.set_cons_succ]
      refine wpAnyX_take (i := 5) (oi := _) (v := ?_) rfl (by kernel_rfl) (by kernel_rfl) (by kernel_rfl) (by kernel_rfl) (fun _ _ _ h => h) (Or.inl ⟨by rfl, ?_⟩) hS0 ?_
      rotate_left 1
      · (intro w hSw; (try dsimp only at hSw); go_simp; (try with_reducible rfl))
      try simp only [Act.put, List.setIfInBounds_toArray, List.set_cons_zero, List.set_cons_succ]
      refine wpAnyX_take (i := 6) (oi := _) (v := ?_) rfl (by kernel_rfl) (by kernel_rfl) (by kernel_rfl) (by kernel_rfl) (fun _ _ _ h => h) (Or.inl ⟨by rfl, ?_⟩) hS0 ?_
      rotate_left 1
      · (intro w hSw; (try dsimp only at hSw); go_simp; (try with_reducible rfl))
      try simp only [Act.put, List.setIfInBounds_toArray, List.set_cons_zero, List.set_cons_succ]
      refine wpAnyX_one (i := 7) (o := _) rfl (by kernel_rfl) (fun K hK => ?_)
      go_simp
      refine (l7bef (xs := xs) (zs := zs) (PX := 0) (PZ := pw j) (X := fnd zs (0, 0, pw j) n) (Z := fnd xs (0, 0, pw j) n) (D := pw n) q1 q5 rfl HSY.out (hp0) (hpw) ?_ ?_ OX.out OZ.out rfl rfl hr2.out).mono ?_
      · exact (show Rd pauliE w5 _ xs from HA.out.mono hB5)
      · exact (show Rd pauliE w5 _ zs from HB.out.mono hB5)
      rintro ee w9 ⟨rfl, hb9⟩
      have hWq : Below w5.heap.size w5 w9 := ⟨hb9.os, hb9.tape, hb9.output, hb9.size, hb9.block⟩
      have hzq := hWq.size
      have HO9 := lay (HO.out.mono hWq)
      refine hK.out _ _ (fun _ => ?_) (fun hS1 => ?_)
      · exact ⟨kcl hb9 (hS0.1), kcl hb9 (hS0.2.1), kcl hb9 (hS0.2.2.1), kcl hb9 (hS0.2.2.2.1), kcl hb9 (hS0.2.2.2.2.1), kcl hb9 (hS0.2.2.2.2.2)⟩
      clear hK K
      have hS1 := hS1 (by decide)
      try simp only [Act.put, List.setIfInBounds_toArray, List.set_cons_zero, List.set_cons_succ]
      refine wpAnyX_one (i := 8) (o := _) rfl (by kernel_rfl) (fun K hK => ?_)
      go_simp
      refine hK.out _ _ (fun _ => ?_) (fun hS2 => ?_)
      · first | exact ⟨kclAl (hS1.1), kclAl (hS1.2.1), kclAl (hS1.2.2.1), kclAl (hS1.2.2.2.1), kclAl (hS1.2.2.2.2.1), kclAl (hS1.2.2.2.2.2)⟩ | exact ⟨kclAld (hS1.1), kclAld (hS1.2.1), kclAld (hS1.2.2.1), kclAld (hS1.2.2.2.1), kclAld (hS1.2.2.2.2.1), kclAld (hS1.2.2.2.2.2)⟩
      clear hK K
      have hS2 := hS2 (by decide)
      try simp only [Act.put, List.setIfInBounds_toArray, List.set_cons_zero, List.set_cons_succ]
      refine wpAnyX_one (i := 9) (o := _) rfl (by kernel_rfl) (fun K hK => ?_)
      refine step_app1 (E := pauliE) rfl _ _ _ (by rfl) (w.heap.size + 1 + 1 + 1) 43 i0 _ 24 Try.underlying51 hi0 iz0 iz1 iz2 rfl _ _ j (tab_len _ _) (by rfl) (HO9.out.alloc _).2.1 w9.heap.size 1 (pv P2 (fnd zs (0, 0, pw j) n) (fnd xs (0, 0, pw j) n)) #[.int .i64 (P2 : Int), .int .i64 ((fnd zs (0, 0, pw j) n : Nat) : Int), .int .i64 ((fnd xs (0, 0, pw j) n : Nat) : Int)] rfl (by rfl) (heap_alloc_new _ _) hmax hby (by simp only [World.size_alloc]; omega) ?_
      intro A11 cp11 w11 hO11 hG11 hat11
      have YO := ((Xo.out.mono hWq).alloc (.cells #[.int .i64 (P2 : Int), .int .i64 ((fnd zs (0, 0, pw j) n : Nat) : Int), .int .i64 ((fnd xs (0, 0, pw j) n : Nat) : Int)] 43)).grown hG11 neo
      refine hK.out _ _ (fun _ => ?_) (fun hS3 => ?_)
      · exact ⟨hG11.cell (hS2.1) ne0, hG11.cell (hS2.2.1) ne0, hG11.cell (hS2.2.2.1) ne0, hG11.cell (hS2.2.2.2.1) neo, hG11.cell (hS2.2.2.2.2.1) neo, hG11.cell (hS2.2.2.2.2.2) neo⟩
      clear hK K
      have hS3 := hS3 (by decide)
      try simp only [Act.put, List.setIfInBounds_toArray, List.set_cons_zero, List.set_cons_succ]
      refine wpAnyX_take (i := 10) (oi := _) (v := ?_) rfl (by kernel_rfl) (by kernel_rfl) (by kernel_rfl) (by kernel_rfl) (fun _ _ _ h => h) (Or.inl ⟨by rfl, ?_⟩) hS3 ?_
      rotate_left 1
      · (intro w hSw; (try dsimp only at hSw); go_simp; (try with_reducible rfl))
      change wpAnyX _ _ _ _ _ _ _ _ (Act.put _ (some 35) _) _
      try simp only [Act.put, List.setIfInBounds_toArray, List.set_cons_zero, List.set_cons_succ]
      refine wpAnyX_one (i := 11) (o := _) rfl (by kernel_rfl) (fun K hK => ?_)
      have yo0 := YO.c 0 rfl
      have yo1 := YO.c 1 rfl
      have yo2 := YO.c 2 rfl
      have yof := YO.f
      go_simp
      refine hK.out _ _ (fun h => absurd rfl h) (fun _ => ?_)
      clear hK K
      try simp only [Act.put, List.setIfInBounds_toArray, List.set_cons_zero, List.set_cons_succ]
      refine wpAnyX_done (by kernel_rfl) ?_ _
      have hzg := hG11.size
      simp only [World.size_alloc] at hzg
      have hBg : Below w.heap.size w w11 := Below.grown ((chn hB5 hWq hB5.size).alloc (Nat.le_trans hB5.size hzq) _) hG11 (by simp only [World.size_alloc]; have := hB5.size; omega) (fun r hr => by have := (HO9.out.2.1.lt r hr).1; omega)
      go_wp2_with (fail)
      obtain ⟨w6, hw⟩ : ∃ W, W = w11.setCell ⟨w.heap.size + 1 + 1, 2, none⟩ (.slice A11 (j + 1) cp11) := ⟨_, rfl⟩
      have Yt : Hid (Bb w6 (w.heap.size) 53 #[.int .i64 (n : Int), .slice A1 n c1, .slice A2 n c2]) := by show Bb _ _ _ _; rw [hw]; exact (((Xt.out.mono hWq).alloc _).grown hG11 ne0).far (by omega)
      have Yz : Hid (Bb w6 (w.heap.size + 1) 53 #[.int .i64 0, .slice none 0 0, .slice none 0 0]) := by show Bb _ _ _ _; rw [hw]; exact (((Xz.out.mono hWq).alloc _).grown hG11 nez).far (by omega)
      have Yo : Hid (Bb w6 (w.heap.size + 1 + 1) 53 #[.int .i64 (n : Int), .slice A10 (j + 1) cp10, .slice A11 (j + 1) cp11]) := by show Bb _ _ _ _; rw [hw]; exact YO.set rfl
      have Y1 : Hid (Ow2 w6 (w.heap.size + 1 + 1 + 1) (.slice A10 (j + 1) cp10) (.slice A11 (j + 1) cp11) (tab (j + 1) (invX n xs zs)) (tab (j + 1) (invZ n xs zs))) := by
        show Ow2 _ _ _ _ _ _
        have h9 := Ow2.appZ (HO9.out.alloc _) hO11 hG11 hat11
        rw [VZ.out, ← tab_succ] at h9
        rw [hw]; exact h9.far (by show w.heap.size + 1 + 1 < _; omega) _
      have hB6 : Below w.heap.size w w6 := by rw [hw]; exact Below.setCell hBg (by show w.heap.size ≤ w.heap.size + 1 + 1; omega) _
      have hsz6 : (w.heap.size + 1 + 1 + 1) ≤ w6.heap.size := by rw [hw, World.size_setCell]; omega
      subst hw
      go_roundg m
      case measure => omega
      case rel => exact ⟨j + 1, A10, cp10, A11, cp11, by omega, by go_num, Yt, Yz, Yo, Y1, hsz6, hB6⟩

end Go.Proofs.Ytjedpeoafpljhaa.C4
