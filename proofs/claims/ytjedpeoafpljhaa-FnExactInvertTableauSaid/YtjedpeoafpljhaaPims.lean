/- Images: the model. -/
import Derived.Test.YtjedpeoafpljhaaPim
import Derived.Test.YtjedpeoafpljhaaPs
namespace Go.Proofs.Ytjedpeoafpljhaa.C4
open Go.RowKit
set_option linter.unusedVariables false
set_option linter.unusedSimpArgs false
attribute [local irreducible] World.setCell

set_option maxRecDepth 100000 in
set_option maxHeartbeats 16000000 in
theorem simg {n p0 px pz P X Z c1 c2 : Nat} {A1 A2 : Option Addr} {xs zs : List PauliV} {w : World} (q5 : n ≤ 5) (hp0 : p0 ≤ 3) (hpx : px < 2 ^ n) (hpz : pz < 2 ^ n) (hA : Rd pauliE w A1 xs) (hB : Rd pauliE w A2 zs) (hx : okL n xs) (hz : okL n zs) (hr : imgS px pz xs zs p0 n = (P, X, Z)) :
    Calls Try.prog 156 #[tableauV (n : Int) A1 n c1 A2 n c2, pA p0 px pz] w fun ee w' => ee = .returned (pA P X Z) ∧ okS n (P, X, Z) ∧ Below w.heap.size w w' := by
  have hn1 : 1 ≤ n ∨ n = 0 := by omega
  have hpx3 := p32 q5 hpx
  have hpz3 := p32 q5 hpz
  have hpw : 0 < 2 ^ n := Nat.two_pow_pos n
  have HPW := lay hpw
  have HA := lay hA
  have HB := lay hB
  have OX := lay hx
  have OZ := lay hz
  have HR := lay hr
  clear hA hB hx hz hr hpw hn1 hpx hpz
  go_enter Try.func156, Try.ntmps156
  go_wp2_with (fail)
  go_loopg [6] n (fun k s1 wr => ∃ j ph x z : Nat, j + k = n ∧ s1 = .int .i64 (j : Int) ∧ Hid ((ph, x, z) = imgS px pz xs zs p0 j) ∧ Hid (okS n (ph, x, z)) ∧ Hid (Bb wr (w.heap.size) 53 #[.int .i64 (n : Int), .slice A1 n c1, .slice A2 n c2]) ∧ Hid (Bb wr (w.heap.size + 1) 43 #[.int .i64 (p0 : Int), .int .i64 (px : Int), .int .i64 (pz : Int)]) ∧ Hid (Bb wr (w.heap.size + 1 + 1) 43 #[.int .i64 0, .int .i64 0, .int .i64 0]) ∧ Hid (Bb wr (w.heap.size + 1 + 1 + 1) 43 #[.int .i64 (ph : Int), .int .i64 (x : Int), .int .i64 (z : Int)]) ∧ Below w.heap.size w wr)
  case atStart => exact ⟨0, p0, 0, 0, by omega, rfl, rfl, ⟨by show p0 < 4; omega, HPW.out, HPW.out⟩, (by show Bb _ _ _ _; (repeat' (first | (with_reducible assumption) | (refine Bb.new (by first | (with_reducible rfl) | (simp; done))) | (with_reducible refine Bb.alloc ?_ _) | (with_reducible refine Bb.drew ?_) | (with_reducible refine Bb.drewN ?_ _) | (with_reducible refine Bb.mono ?_ (by assumption)) | (with_reducible refine Bb.far ?_ (by (try simp only [World.size_alloc, World.size_drew]); omega)) | (with_reducible refine Bb.set ?_ rfl) | (with_reducible refine Bb.grown ?_ (by assumption) (by assumption))))), (by show Bb _ _ _ _; (repeat' (first | (with_reducible assumption) | (refine Bb.new (by first | (with_reducible rfl) | (simp; done))) | (with_reducible refine Bb.alloc ?_ _) | (with_reducible refine Bb.drew ?_) | (with_reducible refine Bb.drewN ?_ _) | (with_reducible refine Bb.mono ?_ (by assumption)) | (with_reducible refine Bb.far ?_ (by (try simp only [World.size_alloc, World.size_drew]); omega)) | (with_reducible refine Bb.set ?_ rfl) | (with_reducible refine Bb.grown ?_ (by assumption) (by assumption))))), (by show Bb _ _ _ _; (repeat' (first | (with_reducible assumption) | (refine Bb.new (by first | (with_reducible rfl) | (simp; done))) | (with_reducible refine Bb.alloc ?_ _) | (with_reducible refine Bb.drew ?_) | (with_reducible refine Bb.drewN ?_ _) | (with_reducible refine Bb.mono ?_ (by assumption)) | (with_reducible refine Bb.far ?_ (by (try simp only [World.size_alloc, World.size_drew]); omega)) | (with_reducible refine Bb.set ?_ rfl) | (with_reducible refine Bb.grown ?_ (by assumption) (by assumption))))), (by show Bb _ _ _ _; (repeat' (first | (with_reducible assumption) | (refine Bb.new (by first | (with_reducible rfl) | (simp; done))) | (with_reducible refine Bb.alloc ?_ _) | (with_reducible refine Bb.drew ?_) | (with_reducible refine Bb.drewN ?_ _) | (with_reducible refine Bb.mono ?_ (by assumption)) | (with_reducible refine Bb.far ?_ (by (try simp only [World.size_alloc, World.size_drew]); omega)) | (with_reducible refine Bb.set ?_ rfl) | (with_reducible refine Bb.grown ?_ (by assumption) (by assumption))))), by (repeat' (first | (with_reducible exact Below.refl _ _) | (with_reducible assumption) | (with_reducible refine Below.alloc ?_ ?_ _) | (with_reducible refine Below.drew ?_) | (with_reducible refine bdN ?_ _) | (with_reducible refine Below.setCell ?_ ?_ _) | (with_reducible refine chn ?_ (by assumption) ?_) | omega | (simp; done) | (simp; omega)))⟩
  case round =>
    obtain ⟨j, ph, x, z, hj, rfl, HS, HO, Xt, Xp, Xz, Xs, hB⟩ := hrel
    have hBs := hB.size
    have ct0 := Xt.out.c 0 rfl
    have ct1 := Xt.out.c 1 rfl
    have ct2 := Xt.out.c 2 rfl
    have lt := Xt.out.lt
    have cp0 := Xp.out.c 0 rfl
    have cp1 := Xp.out.c 1 rfl
    have cp2 := Xp.out.c 2 rfl
    have lp := Xp.out.lt
    have cz0 := Xz.out.c 0 rfl
    have cz1 := Xz.out.c 1 rfl
    have cz2 := Xz.out.c 2 rfl
    have lz := Xz.out.lt
    have fz := Xz.out.f
    have cs0 := Xs.out.c 0 rfl
    have cs1 := Xs.out.c 1 rfl
    have cs2 := Xs.out.c 2 rfl
    have ls := Xs.out.lt
    have fs := Xs.out.f
    cases gk with
    | zero =>
      obtain rfl : n = j := by omega
      have HE : Hid ((ph, x, z) = (P, X, Z)) := by show (ph, x, z) = (P, X, Z); rw [HS.out, HR.out]
      have he := HE.out
      simp only [Prod.mk.injEq] at he
      obtain ⟨rfl, rfl, rfl⟩ := he
      go_wp2_with (fail)
      refine bodyPost_ret (v := pA ph x z) (by first | (simp [results, Try.results156, go_sem, *]; done) | (simp (disch := (first | omega | (simp; done) | (simp; omega))) [results, Try.results156, go_sem, *]; done) | (simp only [results, Try.results156]; go_simp; done)) rfl ⟨rfl, ?_, ?_⟩
      · exact HO.out
      · (repeat' (first | (with_reducible exact Below.refl _ _) | (with_reducible assumption) | (with_reducible refine Below.alloc ?_ ?_ _) | (with_reducible refine Below.drew ?_) | (with_reducible refine bdN ?_ _) | (with_reducible refine Below.setCell ?_ ?_ _) | (with_reducible refine chn ?_ (by assumption) ?_) | omega | (simp; done) | (simp; omega)))
    | succ m =>
      have hlt : j < n := by omega
      have hj5 : j < 5 := by omega
      have jl : (j : Int) < (n : Int) := by omega
      obtain ⟨pX, aX, bX, hx, pX3, aX2, bX2, nX⟩ := okL_at OX.out hlt
      obtain ⟨pZ, aZ, bZ, hz, pZ3, aZ2, bZ2, nZ⟩ := okL_at OZ.out hlt
      obtain ⟨gX, oX, rfl, hgX, hcX⟩ := HA.out.atPauli hx
      obtain ⟨gZ, oZ, rfl, hgZ, hcZ⟩ := HB.out.atPauli hz
      have HCX := lay hcX
      have HCZ := lay hcZ
      have HNX := lay nX
      have HNZ := lay nZ
      clear hx hz hcX hcZ nX nZ
      have ho := HO.out
      have ho1 : ph < 4 := ho.1
      have ho2 := lay ho.2.1
      have ho3 := lay ho.2.2
      clear ho
      go_wp2_with (fail)
      refine (l7l hpx3 hpz3 hj5 _).mono ?_
      rintro ee w4 ⟨rfl, hb4⟩
      have hB4 : Below w.heap.size w w4 := chn hB hb4 hBs
      have hz4 := hb4.size
      have Vt := lay (Xt.out.mono hb4)
      have Vp := lay (Xp.out.mono hb4)
      have Vz := lay (Xz.out.mono hb4)
      have Vs := lay (Xs.out.mono hb4)
      clear hb4 Xt Xp Xz Xs ct0 ct1 ct2 lt cp0 cp1 cp2 lp cz0 cz1 cz2 lz fz cs0 cs1 cs2 ls fs
      have b01 : bits .and .i64 (0 : Int) 1 = 0 := by decide +kernel
      have b02 : bits .and .i64 (0 : Int) 2 = 0 := by decide +kernel
      have b11 : bits .and .i64 (1 : Int) 1 = 1 := by decide +kernel
      have b12 : bits .and .i64 (1 : Int) 2 = 0 := by decide +kernel
      have b21 : bits .and .i64 (2 : Int) 1 = 0 := by decide +kernel
      have b22 : bits .and .i64 (2 : Int) 2 = 2 := by decide +kernel
      have b31 : bits .and .i64 (3 : Int) 1 = 1 := by decide +kernel
      have b32 : bits .and .i64 (3 : Int) 2 = 2 := by decide +kernel
      rcases lt_c px pz j with hl | hl | hl | hl
      · rw [hl]
        have ct0 := Vt.out.c 0 rfl
        have ct1 := Vt.out.c 1 rfl
        have ct2 := Vt.out.c 2 rfl
        have cp0 := Vp.out.c 0 rfl
        have cp1 := Vp.out.c 1 rfl
        have cp2 := Vp.out.c 2 rfl
        have cz0 := Vz.out.c 0 rfl
        have cz1 := Vz.out.c 1 rfl
        have cz2 := Vz.out.c 2 rfl
        have cs0 := Vs.out.c 0 rfl
        have cs1 := Vs.out.c 1 rfl
        have cs2 := Vs.out.c 2 rfl
        have lt := Vt.out.lt
        have lp := Vp.out.lt
        have lz := Vz.out.lt
        have ls := Vs.out.lt
        have fs := Vs.out.f
        go_wp2_with (fail)
        go_roundg m
        case measure => omega
        case rel => exact ⟨j + 1, ph, x, z, by omega, by go_num, HS.out.trans (imgS_0 hl).symm, HO, Vt, Vp, Vz, Vs, hB4⟩
      · rw [hl]
        have ct0 := Vt.out.c 0 rfl
        have ct1 := Vt.out.c 1 rfl
        have ct2 := Vt.out.c 2 rfl
        have cp0 := Vp.out.c 0 rfl
        have cp1 := Vp.out.c 1 rfl
        have cp2 := Vp.out.c 2 rfl
        have cz0 := Vz.out.c 0 rfl
        have cz1 := Vz.out.c 1 rfl
        have cz2 := Vz.out.c 2 rfl
        have cs0 := Vs.out.c 0 rfl
        have cs1 := Vs.out.c 1 rfl
        have cs2 := Vs.out.c 2 rfl
        have lt := Vt.out.lt
        have lp := Vp.out.lt
        have lz := Vz.out.lt
        have ls := Vs.out.lt
        have fs := Vs.out.f
        go_upto_region 7 with (fail)
        have hEqw4 : w.heap.size ≤ w4.heap.size := hB4.size
        have e0 : w4.cell? ⟨gX, oX + j * 3, none⟩ = some (.int .i64 (pX : Int)) := (World.cell?_of_block (hB4.block gX hgX)).trans HCX.out.1
        have e1 : w4.cell? ⟨gX, oX + j * 3 + 1, none⟩ = some (.int .i64 (aX : Int)) := (World.cell?_of_block (hB4.block gX hgX)).trans HCX.out.2.1
        have e2 : w4.cell? ⟨gX, oX + j * 3 + 2, none⟩ = some (.int .i64 (bX : Int)) := (World.cell?_of_block (hB4.block gX hgX)).trans HCX.out.2.2
        have yct0 : w4.drew.cell? ⟨w.heap.size, 0, none⟩ = some (.int .i64 (n : Int)) := ct0
        have yct1 : w4.drew.cell? ⟨w.heap.size, 1, none⟩ = some (.slice (some ⟨gX, oX, none⟩) n c1) := ct1
        have yct2 : w4.drew.cell? ⟨w.heap.size, 2, none⟩ = some (.slice (some ⟨gZ, oZ, none⟩) n c2) := ct2
        have ye0 : w4.drew.cell? ⟨gX, oX + j * 3, none⟩ = some (.int .i64 (pX : Int)) := e0
        have ye1 : w4.drew.cell? ⟨gX, oX + j * 3 + 1, none⟩ = some (.int .i64 (aX : Int)) := e1
        have ye2 : w4.drew.cell? ⟨gX, oX + j * 3 + 2, none⟩ = some (.int .i64 (bX : Int)) := e2
        refine wp_region_x (fun w' => w'.cell? ⟨w.heap.size, 0, none⟩ = some (.int .i64 (n : Int)) ∧ w'.cell? ⟨w.heap.size, 1, none⟩ = some (.slice (some ⟨gX, oX, none⟩) n c1) ∧ w'.cell? ⟨w.heap.size, 2, none⟩ = some (.slice (some ⟨gZ, oZ, none⟩) n c2) ∧ w'.cell? ⟨gX, oX + j * 3, none⟩ = some (.int .i64 (pX : Int)) ∧ w'.cell? ⟨gX, oX + j * 3 + 1, none⟩ = some (.int .i64 (aX : Int)) ∧ w'.cell? ⟨gX, oX + j * 3 + 2, none⟩ = some (.int .i64 (bX : Int))) 1000 (by kernel_rfl) ⟨yct0, yct1, yct2, ye0, ye1, ye2⟩ (fun hS0 => ?_)
        refine wpAnyX_take (i := 1) (oi := _) (v := ?_) rfl (by kernel_rfl) (by kernel_rfl) (by kernel_rfl) (by kernel_rfl) (fun _ _ _ h => h) (Or.inl ⟨by rfl, ?_⟩) hS0 ?_
        rotate_left 1
        · (intro w hSw; (try dsimp only at hSw); go_simp; (try with_reducible rfl))
        try simp only [Act.put, List.setIfInBounds_toArray, List.set_cons_zero, List.set_cons_succ]
        refine wpAnyX_take (i := 2) (oi := _) (v := ?_) rfl (by kernel_rfl) (by kernel_rfl) (by kernel_rfl) (by kernel_rfl) (fun _ _ _ h => h) (Or.inl ⟨by rfl, ?_⟩) hS0 ?_
        rotate_left 1
        · (intro w hSw; (try dsimp only at hSw); go_simp; (try with_reducible rfl))
        try simp only [Act.put, List.setIfInBounds_toArray, List.set_cons_zero, List.set_cons_succ]
        refine wpAnyX_take (i := 3) (oi := _) (v := ?_) rfl (by kernel_rfl) (by kernel_rfl) (by kernel_rfl) (by kernel_rfl) (fun _ _ _ h => h) (Or.inl ⟨by rfl, ?_⟩) hS0 ?_
        rotate_left 1
        · (intro w hSw; (try dsimp only at hSw); go_simp; (try with_reducible rfl))
        try simp only [Act.put, List.setIfInBounds_toArray, List.set_cons_zero, List.set_cons_succ]
        refine wpAnyX_take (i := 4) (oi := _) (v := ?_) rfl (by kernel_rfl) (by kernel_rfl) (by kernel_rfl) (by kernel_rfl) (fun _ _ _ h => h) (Or.inl ⟨by rfl, ?_⟩) hS0 ?_
        rotate_left 1
        · (intro w hSw; (try dsimp only at hSw); go_simp; (try with_reducible rfl))
        try simp only [Act.put, List.setIfInBounds_toArray, List.set_cons_zero, List.set_cons_succ]
        refine wpAnyX_take (i := 5) (oi := _) (v := ?_) rfl (by kernel_rfl) (by kernel_rfl) (by kernel_rfl) (by kernel_rfl) (fun _ _ _ h => h) (Or.inl ⟨by rfl, ?_⟩) hS0 ?_
        rotate_left 1
        · (intro w hSw; (try dsimp only at hSw); go_simp; (try with_reducible rfl))
        try simp only [Act.put, List.setIfInBounds_toArray, List.set_cons_zero, List.set_cons_succ]
        refine wpAnyX_one (i := 0) (o := _) rfl (by kernel_rfl) (fun K hK => ?_)
        go_simp
        refine hK.out _ _ (fun _ => ?_) (fun hS1 => ?_)
        · exact hS0
        clear hK K
        have hS1 := hS1 (by decide)
        try simp only [Act.put, List.setIfInBounds_toArray, List.set_cons_zero, List.set_cons_succ]
        refine wpAnyX_one (i := 6) (o := _) rfl (by kernel_rfl) (fun K hK => ?_)
        go_simp
        refine (l7m (by omega) (by omega) (p32 q5 ho2.out) (p32 q5 ho3.out) (p32 q5 aX2) (p32 q5 bX2) _).mono ?_
        rintro ee w9 ⟨rfl, hb9⟩
        refine hK.out _ _ (fun _ => ?_) (fun hS2 => ?_)
        · exact ⟨kcl hb9 (hS1.1), kcl hb9 (hS1.2.1), kcl hb9 (hS1.2.2.1), kcl hb9 (hS1.2.2.2.1), kcl hb9 (hS1.2.2.2.2.1), kcl hb9 (hS1.2.2.2.2.2)⟩
        clear hK K
        have hS2 := hS2 (by decide)
        try simp only [Act.put, List.setIfInBounds_toArray, List.set_cons_zero, List.set_cons_succ]
        refine wpAnyX_one (i := 7) (o := _) rfl (by kernel_rfl) (fun K hK => ?_)
        have XS9 := Vs.out.mono (show Below w4.heap.size w4 w9 from ⟨hb9.os, hb9.tape, hb9.output, hb9.size, hb9.block⟩)
        have cq0 := XS9.c 0 rfl
        have cq1 := XS9.c 1 rfl
        have cq2 := XS9.c 2 rfl
        have fq := XS9.f
        go_simp
        refine hK.out _ _ (fun _ => ?_) (fun hS3 => ?_)
        · exact ⟨kclS3 (by omega) (hS2.1), kclS3 (by omega) (hS2.2.1), kclS3 (by omega) (hS2.2.2.1), kclS3 (by omega) (hS2.2.2.2.1), kclS3 (by omega) (hS2.2.2.2.2.1), kclS3 (by omega) (hS2.2.2.2.2.2)⟩
        clear hK K
        have hS3 := hS3 (by decide)
        try simp only [Act.put, List.setIfInBounds_toArray, List.set_cons_zero, List.set_cons_succ]
        refine wpAnyX_done (by kernel_rfl) ?_ _
        have hWq : Below w4.heap.size w4 w9 := ⟨hb9.os, hb9.tape, hb9.output, hb9.size, hb9.block⟩
        obtain ⟨u, hu⟩ : ∃ u : St, u = mulN (ph, x, z) (pX, aX, bX) := ⟨_, rfl⟩
        have hm : (mulV ph x z pX aX bX) = pv u.1 u.2.1 u.2.2 := by rw [hu]; rfl
        rw [hm]
        go_wp2_with (fail)
        go_roundg m
        case measure => omega
        case rel =>
          refine ⟨j + 1, u.1, u.2.1, u.2.2, by omega, by go_num, ?_, ?_, (((Vt.out.mono hWq).far (by omega)).far (by omega)).far (by omega), (((Vp.out.mono hWq).far (by omega)).far (by omega)).far (by omega), (((Vz.out.mono hWq).far (by omega)).far (by omega)).far (by omega), ?_, ?_⟩
          · show u = _; rw [hu]; exact imgS_1 hl HS.out HNX.out
          · show okS n u; rw [hu]; exact okS_mul ⟨ho2.out, ho3.out⟩ ⟨aX2, bX2⟩
          · exact (((Vs.out.mono hWq).set rfl).set rfl).set (by rw [hu]; rfl)
          · have hB9 := chn hB4 hWq hB4.size
            exact Below.setCell (Below.setCell (Below.setCell hB9 (by show w.heap.size ≤ w.heap.size + 1 + 1 + 1; omega) _) (by show w.heap.size ≤ w.heap.size + 1 + 1 + 1; omega) _) (by show w.heap.size ≤ w.heap.size + 1 + 1 + 1; omega) _
      · rw [hl]
        have ct0 := Vt.out.c 0 rfl
        have ct1 := Vt.out.c 1 rfl
        have ct2 := Vt.out.c 2 rfl
        have cp0 := Vp.out.c 0 rfl
        have cp1 := Vp.out.c 1 rfl
        have cp2 := Vp.out.c 2 rfl
        have cz0 := Vz.out.c 0 rfl
        have cz1 := Vz.out.c 1 rfl
        have cz2 := Vz.out.c 2 rfl
        have cs0 := Vs.out.c 0 rfl
        have cs1 := Vs.out.c 1 rfl
        have cs2 := Vs.out.c 2 rfl
        have lt := Vt.out.lt
        have lp := Vp.out.lt
        have lz := Vz.out.lt
        have ls := Vs.out.lt
        have fs := Vs.out.f
        go_upto_region 9 with (fail)
        have hEqw4 : w.heap.size ≤ w4.heap.size := hB4.size
        have e0 : w4.cell? ⟨gZ, oZ + j * 3, none⟩ = some (.int .i64 (pZ : Int)) := (World.cell?_of_block (hB4.block gZ hgZ)).trans HCZ.out.1
        have e1 : w4.cell? ⟨gZ, oZ + j * 3 + 1, none⟩ = some (.int .i64 (aZ : Int)) := (World.cell?_of_block (hB4.block gZ hgZ)).trans HCZ.out.2.1
        have e2 : w4.cell? ⟨gZ, oZ + j * 3 + 2, none⟩ = some (.int .i64 (bZ : Int)) := (World.cell?_of_block (hB4.block gZ hgZ)).trans HCZ.out.2.2
        have yct0 : w4.drew.cell? ⟨w.heap.size, 0, none⟩ = some (.int .i64 (n : Int)) := ct0
        have yct1 : w4.drew.cell? ⟨w.heap.size, 1, none⟩ = some (.slice (some ⟨gX, oX, none⟩) n c1) := ct1
        have yct2 : w4.drew.cell? ⟨w.heap.size, 2, none⟩ = some (.slice (some ⟨gZ, oZ, none⟩) n c2) := ct2
        have ye0 : w4.drew.cell? ⟨gZ, oZ + j * 3, none⟩ = some (.int .i64 (pZ : Int)) := e0
        have ye1 : w4.drew.cell? ⟨gZ, oZ + j * 3 + 1, none⟩ = some (.int .i64 (aZ : Int)) := e1
        have ye2 : w4.drew.cell? ⟨gZ, oZ + j * 3 + 2, none⟩ = some (.int .i64 (bZ : Int)) := e2
        refine wp_region_x (fun w' => w'.cell? ⟨w.heap.size, 0, none⟩ = some (.int .i64 (n : Int)) ∧ w'.cell? ⟨w.heap.size, 1, none⟩ = some (.slice (some ⟨gX, oX, none⟩) n c1) ∧ w'.cell? ⟨w.heap.size, 2, none⟩ = some (.slice (some ⟨gZ, oZ, none⟩) n c2) ∧ w'.cell? ⟨gZ, oZ + j * 3, none⟩ = some (.int .i64 (pZ : Int)) ∧ w'.cell? ⟨gZ, oZ + j * 3 + 1, none⟩ = some (.int .i64 (aZ : Int)) ∧ w'.cell? ⟨gZ, oZ + j * 3 + 2, none⟩ = some (.int .i64 (bZ : Int))) 1000 (by kernel_rfl) ⟨yct0, yct1, yct2, ye0, ye1, ye2⟩ (fun hS0 => ?_)
        refine wpAnyX_take (i := 1) (oi := _) (v := ?_) rfl (by kernel_rfl) (by kernel_rfl) (by kernel_rfl) (by kernel_rfl) (fun _ _ _ h => h) (Or.inl ⟨by rfl, ?_⟩) hS0 ?_
        rotate_left 1
        · (intro w hSw; (try dsimp only at hSw); go_simp; (try with_reducible rfl))
        try simp only [Act.put, List.setIfInBounds_toArray, List.set_cons_zero, List.set_cons_succ]
        refine wpAnyX_take (i := 2) (oi := _) (v := ?_) rfl (by kernel_rfl) (by kernel_rfl) (by kernel_rfl) (by kernel_rfl) (fun _ _ _ h => h) (Or.inl ⟨by rfl, ?_⟩) hS0 ?_
        rotate_left 1
        · (intro w hSw; (try dsimp only at hSw); go_simp; (try with_reducible rfl))
        try simp only [Act.put, List.setIfInBounds_toArray, List.set_cons_zero, List.set_cons_succ]
        refine wpAnyX_take (i := 3) (oi := _) (v := ?_) rfl (by kernel_rfl) (by kernel_rfl) (by kernel_rfl) (by kernel_rfl) (fun _ _ _ h => h) (Or.inl ⟨by rfl, ?_⟩) hS0 ?_
        rotate_left 1
        · (intro w hSw; (try dsimp only at hSw); go_simp; (try with_reducible rfl))
        try simp only [Act.put, List.setIfInBounds_toArray, List.set_cons_zero, List.set_cons_succ]
        refine wpAnyX_take (i := 4) (oi := _) (v := ?_) rfl (by kernel_rfl) (by kernel_rfl) (by kernel_rfl) (by kernel_rfl) (fun _ _ _ h => h) (Or.inl ⟨by rfl, ?_⟩) hS0 ?_
        rotate_left 1
        · (intro w hSw; (try dsimp only at hSw); go_simp; (try with_reducible rfl))
        try simp only [Act.put, List.setIfInBounds_toArray, List.set_cons_zero, List.set_cons_succ]
        refine wpAnyX_take (i := 5) (oi := _) (v := ?_) rfl (by kernel_rfl) (by kernel_rfl) (by kernel_rfl) (by kernel_rfl) (fun _ _ _ h => h) (Or.inl ⟨by rfl, ?_⟩) hS0 ?_
        rotate_left 1
        · (intro w hSw; (try dsimp only at hSw); go_simp; (try with_reducible rfl))
        try simp only [Act.put, List.setIfInBounds_toArray, List.set_cons_zero, List.set_cons_succ]
        refine wpAnyX_one (i := 0) (o := _) rfl (by kernel_rfl) (fun K hK => ?_)
        go_simp
        refine hK.out _ _ (fun _ => ?_) (fun hS1 => ?_)
        · exact hS0
        clear hK K
        have hS1 := hS1 (by decide)
        try simp only [Act.put, List.setIfInBounds_toArray, List.set_cons_zero, List.set_cons_succ]
        refine wpAnyX_one (i := 6) (o := _) rfl (by kernel_rfl) (fun K hK => ?_)
        go_simp
        refine (l7m (by omega) (by omega) (p32 q5 ho2.out) (p32 q5 ho3.out) (p32 q5 aZ2) (p32 q5 bZ2) _).mono ?_
        rintro ee w9 ⟨rfl, hb9⟩
        refine hK.out _ _ (fun _ => ?_) (fun hS2 => ?_)
        · exact ⟨kcl hb9 (hS1.1), kcl hb9 (hS1.2.1), kcl hb9 (hS1.2.2.1), kcl hb9 (hS1.2.2.2.1), kcl hb9 (hS1.2.2.2.2.1), kcl hb9 (hS1.2.2.2.2.2)⟩
        clear hK K
        have hS2 := hS2 (by decide)
        try simp only [Act.put, List.setIfInBounds_toArray, List.set_cons_zero, List.set_cons_succ]
        refine wpAnyX_one (i := 7) (o := _) rfl (by kernel_rfl) (fun K hK => ?_)
        have XS9 := Vs.out.mono (show Below w4.heap.size w4 w9 from ⟨hb9.os, hb9.tape, hb9.output, hb9.size, hb9.block⟩)
        have cq0 := XS9.c 0 rfl
        have cq1 := XS9.c 1 rfl
        have cq2 := XS9.c 2 rfl
        have fq := XS9.f
        go_simp
        refine hK.out _ _ (fun _ => ?_) (fun hS3 => ?_)
        · exact ⟨kclS3 (by omega) (hS2.1), kclS3 (by omega) (hS2.2.1), kclS3 (by omega) (hS2.2.2.1), kclS3 (by omega) (hS2.2.2.2.1), kclS3 (by omega) (hS2.2.2.2.2.1), kclS3 (by omega) (hS2.2.2.2.2.2)⟩
        clear hK K
        have hS3 := hS3 (by decide)
        try simp only [Act.put, List.setIfInBounds_toArray, List.set_cons_zero, List.set_cons_succ]
        refine wpAnyX_done (by kernel_rfl) ?_ _
        have hWq : Below w4.heap.size w4 w9 := ⟨hb9.os, hb9.tape, hb9.output, hb9.size, hb9.block⟩
        obtain ⟨u, hu⟩ : ∃ u : St, u = mulN (ph, x, z) (pZ, aZ, bZ) := ⟨_, rfl⟩
        have hm : (mulV ph x z pZ aZ bZ) = pv u.1 u.2.1 u.2.2 := by rw [hu]; rfl
        rw [hm]
        go_wp2_with (fail)
        go_roundg m
        case measure => omega
        case rel =>
          refine ⟨j + 1, u.1, u.2.1, u.2.2, by omega, by go_num, ?_, ?_, (((Vt.out.mono hWq).far (by omega)).far (by omega)).far (by omega), (((Vp.out.mono hWq).far (by omega)).far (by omega)).far (by omega), (((Vz.out.mono hWq).far (by omega)).far (by omega)).far (by omega), ?_, ?_⟩
          · show u = _; rw [hu]; exact imgS_2 hl HS.out HNZ.out
          · show okS n u; rw [hu]; exact okS_mul ⟨ho2.out, ho3.out⟩ ⟨aZ2, bZ2⟩
          · exact (((Vs.out.mono hWq).set rfl).set rfl).set (by rw [hu]; rfl)
          · have hB9 := chn hB4 hWq hB4.size
            exact Below.setCell (Below.setCell (Below.setCell hB9 (by show w.heap.size ≤ w.heap.size + 1 + 1 + 1; omega) _) (by show w.heap.size ≤ w.heap.size + 1 + 1 + 1; omega) _) (by show w.heap.size ≤ w.heap.size + 1 + 1 + 1; omega) _
      · rw [hl]
        have ct0 := Vt.out.c 0 rfl
        have ct1 := Vt.out.c 1 rfl
        have ct2 := Vt.out.c 2 rfl
        have cp0 := Vp.out.c 0 rfl
        have cp1 := Vp.out.c 1 rfl
        have cp2 := Vp.out.c 2 rfl
        have cz0 := Vz.out.c 0 rfl
        have cz1 := Vz.out.c 1 rfl
        have cz2 := Vz.out.c 2 rfl
        have cs0 := Vs.out.c 0 rfl
        have cs1 := Vs.out.c 1 rfl
        have cs2 := Vs.out.c 2 rfl
        have lt := Vt.out.lt
        have lp := Vp.out.lt
        have lz := Vz.out.lt
        have ls := Vs.out.lt
        have fs := Vs.out.f
        go_upto_region 7 with (fail)
        have hEqw4 : w.heap.size ≤ w4.heap.size := hB4.size
        have e0 : w4.cell? ⟨gX, oX + j * 3, none⟩ = some (.int .i64 (pX : Int)) := (World.cell?_of_block (hB4.block gX hgX)).trans HCX.out.1
        have e1 : w4.cell? ⟨gX, oX + j * 3 + 1, none⟩ = some (.int .i64 (aX : Int)) := (World.cell?_of_block (hB4.block gX hgX)).trans HCX.out.2.1
        have e2 : w4.cell? ⟨gX, oX + j * 3 + 2, none⟩ = some (.int .i64 (bX : Int)) := (World.cell?_of_block (hB4.block gX hgX)).trans HCX.out.2.2
        have yct0 : w4.drew.cell? ⟨w.heap.size, 0, none⟩ = some (.int .i64 (n : Int)) := ct0
        have yct1 : w4.drew.cell? ⟨w.heap.size, 1, none⟩ = some (.slice (some ⟨gX, oX, none⟩) n c1) := ct1
        have yct2 : w4.drew.cell? ⟨w.heap.size, 2, none⟩ = some (.slice (some ⟨gZ, oZ, none⟩) n c2) := ct2
        have ye0 : w4.drew.cell? ⟨gX, oX + j * 3, none⟩ = some (.int .i64 (pX : Int)) := e0
        have ye1 : w4.drew.cell? ⟨gX, oX + j * 3 + 1, none⟩ = some (.int .i64 (aX : Int)) := e1
        have ye2 : w4.drew.cell? ⟨gX, oX + j * 3 + 2, none⟩ = some (.int .i64 (bX : Int)) := e2
        refine wp_region_x (fun w' => w'.cell? ⟨w.heap.size, 0, none⟩ = some (.int .i64 (n : Int)) ∧ w'.cell? ⟨w.heap.size, 1, none⟩ = some (.slice (some ⟨gX, oX, none⟩) n c1) ∧ w'.cell? ⟨w.heap.size, 2, none⟩ = some (.slice (some ⟨gZ, oZ, none⟩) n c2) ∧ w'.cell? ⟨gX, oX + j * 3, none⟩ = some (.int .i64 (pX : Int)) ∧ w'.cell? ⟨gX, oX + j * 3 + 1, none⟩ = some (.int .i64 (aX : Int)) ∧ w'.cell? ⟨gX, oX + j * 3 + 2, none⟩ = some (.int .i64 (bX : Int))) 1000 (by kernel_rfl) ⟨yct0, yct1, yct2, ye0, ye1, ye2⟩ (fun hS0 => ?_)
        refine wpAnyX_take (i := 1) (oi := _) (v := ?_) rfl (by kernel_rfl) (by kernel_rfl) (by kernel_rfl) (by kernel_rfl) (fun _ _ _ h => h) (Or.inl ⟨by rfl, ?_⟩) hS0 ?_
        rotate_left 1
        · (intro w hSw; (try dsimp only at hSw); go_simp; (try with_reducible rfl))
        try simp only [Act.put, List.setIfInBounds_toArray, List.set_cons_zero, List.set_cons_succ]
        refine wpAnyX_take (i := 2) (oi := _) (v := ?_) rfl (by kernel_rfl) (by kernel_rfl) (by kernel_rfl) (by kernel_rfl) (fun _ _ _ h => h) (Or.inl ⟨by rfl, ?_⟩) hS0 ?_
        rotate_left 1
        · (intro w hSw; (try dsimp only at hSw); go_simp; (try with_reducible rfl))
        try simp only [Act.put, List.setIfInBounds_toArray, List.set_cons_zero, List.set_cons_succ]
        refine wpAnyX_take (i := 3) (oi := _) (v := ?_) rfl (by kernel_rfl) (by kernel_rfl) (by kernel_rfl) (by kernel_rfl) (fun _ _ _ h => h) (Or.inl ⟨by rfl, ?_⟩) hS0 ?_
        rotate_left 1
        · (intro w hSw; (try dsimp only at hSw); go_simp; (try with_reducible rfl))
        try simp only [Act.put, List.setIfInBounds_toArray, List.set_cons_zero, List.set_cons_succ]
        refine wpAnyX_take (i := 4) (oi := _) (v := ?_) rfl (by kernel_rfl) (by kernel_rfl) (by kernel_rfl) (by kernel_rfl) (fun _ _ _ h => h) (Or.inl ⟨by rfl, ?_⟩) hS0 ?_
        rotate_left 1
        · (intro w hSw; (try dsimp only at hSw); go_simp; (try with_reducible rfl))
        try simp only [Act.put, List.setIfInBounds_toArray, List.set_cons_zero, List.set_cons_succ]
        refine wpAnyX_take (i := 5) (oi := _) (v := ?_) rfl (by kernel_rfl) (by kernel_rfl) (by kernel_rfl) (by kernel_rfl) (fun _ _ _ h => h) (Or.inl ⟨by rfl, ?_⟩) hS0 ?_
        rotate_left 1
        · (intro w hSw; (try dsimp only at hSw); go_simp; (try with_reducible rfl))
        try simp only [Act.put, List.setIfInBounds_toArray, List.set_cons_zero, List.set_cons_succ]
        refine wpAnyX_one (i := 0) (o := _) rfl (by kernel_rfl) (fun K hK => ?_)
        go_simp
        refine hK.out _ _ (fun _ => ?_) (fun hS1 => ?_)
        · exact hS0
        clear hK K
        have hS1 := hS1 (by decide)
        try simp only [Act.put, List.setIfInBounds_toArray, List.set_cons_zero, List.set_cons_succ]
        refine wpAnyX_one (i := 6) (o := _) rfl (by kernel_rfl) (fun K hK => ?_)
        go_simp
        refine (l7m (by omega) (by omega) (p32 q5 ho2.out) (p32 q5 ho3.out) (p32 q5 aX2) (p32 q5 bX2) _).mono ?_
        rintro ee w9 ⟨rfl, hb9⟩
        refine hK.out _ _ (fun _ => ?_) (fun hS2 => ?_)
        · exact ⟨kcl hb9 (hS1.1), kcl hb9 (hS1.2.1), kcl hb9 (hS1.2.2.1), kcl hb9 (hS1.2.2.2.1), kcl hb9 (hS1.2.2.2.2.1), kcl hb9 (hS1.2.2.2.2.2)⟩
        clear hK K
        have hS2 := hS2 (by decide)
        try simp only [Act.put, List.setIfInBounds_toArray, List.set_cons_zero, List.set_cons_succ]
        refine wpAnyX_one (i := 7) (o := _) rfl (by kernel_rfl) (fun K hK => ?_)
        have XS9 := Vs.out.mono (show Below w4.heap.size w4 w9 from ⟨hb9.os, hb9.tape, hb9.output, hb9.size, hb9.block⟩)
        have cq0 := XS9.c 0 rfl
        have cq1 := XS9.c 1 rfl
        have cq2 := XS9.c 2 rfl
        have fq := XS9.f
        go_simp
        refine hK.out _ _ (fun _ => ?_) (fun hS3 => ?_)
        · exact ⟨kclS3 (by omega) (hS2.1), kclS3 (by omega) (hS2.2.1), kclS3 (by omega) (hS2.2.2.1), kclS3 (by omega) (hS2.2.2.2.1), kclS3 (by omega) (hS2.2.2.2.2.1), kclS3 (by omega) (hS2.2.2.2.2.2)⟩
        clear hK K
        have hS3 := hS3 (by decide)
        try simp only [Act.put, List.setIfInBounds_toArray, List.set_cons_zero, List.set_cons_succ]
        refine wpAnyX_done (by kernel_rfl) ?_ _
        have hWq : Below w4.heap.size w4 w9 := ⟨hb9.os, hb9.tape, hb9.output, hb9.size, hb9.block⟩
        obtain ⟨⟨P1, X1, Z1⟩, hu1⟩ : ∃ u : St, u = mulN (ph, x, z) (pX, aX, bX) := ⟨_, rfl⟩
        have hm1 : (mulV ph x z pX aX bX) = pv P1 X1 Z1 := by
          have h9 := hu1
          unfold mulN at h9
          simp only [Prod.mk.injEq] at h9
          obtain ⟨e1, e2, e3⟩ := h9
          rw [e1, e2, e3]; rfl
        have hok1 : okS n (P1, X1, Z1) := by rw [hu1]; exact okS_mul ⟨ho2.out, ho3.out⟩ ⟨aX2, bX2⟩
        have hP1 : P1 < 4 := hok1.1
        have hX1 := lay hok1.2.1
        have hZ1 := lay hok1.2.2
        have HOK1 := lay hok1
        clear hok1
        rw [hm1]
        go_upto_region 9 with (fail)
        obtain ⟨w6, hww6⟩ : ∃ W, W = ((w9.setCell ⟨w.heap.size + 1 + 1 + 1, 0, none⟩ (.int .i64 (P1 : Int))).setCell ⟨w.heap.size + 1 + 1 + 1, 1, none⟩ (.int .i64 (X1 : Int))).setCell ⟨w.heap.size + 1 + 1 + 1, 2, none⟩ (.int .i64 (Z1 : Int)) := ⟨_, rfl⟩
        have Qt : Hid (Bb w6 (w.heap.size) 53 #[.int .i64 (n : Int), .slice (some ⟨gX, oX, none⟩) n c1, .slice (some ⟨gZ, oZ, none⟩) n c2]) := by show Bb _ _ _ _; rw [hww6]; exact (((Vt.out.mono hWq).far (by omega)).far (by omega)).far (by omega)
        have Qp : Hid (Bb w6 (w.heap.size + 1) 43 #[.int .i64 (p0 : Int), .int .i64 (px : Int), .int .i64 (pz : Int)]) := by show Bb _ _ _ _; rw [hww6]; exact (((Vp.out.mono hWq).far (by omega)).far (by omega)).far (by omega)
        have Qz : Hid (Bb w6 (w.heap.size + 1 + 1) 43 #[.int .i64 0, .int .i64 0, .int .i64 0]) := by show Bb _ _ _ _; rw [hww6]; exact (((Vz.out.mono hWq).far (by omega)).far (by omega)).far (by omega)
        have Qs : Hid (Bb w6 (w.heap.size + 1 + 1 + 1) 43 #[.int .i64 (P1 : Int), .int .i64 (X1 : Int), .int .i64 (Z1 : Int)]) := by show Bb _ _ _ _; rw [hww6]; exact ((Bb.set (Bb.set (Bb.set (Vs.out.mono hWq) rfl) rfl) rfl))
        have hB6 : Below w.heap.size w w6 := by rw [hww6]; exact Below.setCell (Below.setCell (Below.setCell (chn hB4 hWq hB4.size) (by show w.heap.size ≤ w.heap.size + 1 + 1 + 1; omega) _) (by show w.heap.size ≤ w.heap.size + 1 + 1 + 1; omega) _) (by show w.heap.size ≤ w.heap.size + 1 + 1 + 1; omega) _
        rw [← hww6]
        clear hww6 Vt Vp Vz Vs
        have Vt := Qt
        clear Qt
        have Vp := Qp
        clear Qp
        have Vz := Qz
        clear Qz
        have Vs := Qs
        clear Qs
        clear ct0 ct1 ct2 lt cp0 cp1 cp2 lp cz0 cz1 cz2 lz cs0 cs1 cs2 ls fs
        have ct0 := Vt.out.c 0 rfl
        have ct1 := Vt.out.c 1 rfl
        have ct2 := Vt.out.c 2 rfl
        have cp0 := Vp.out.c 0 rfl
        have cp1 := Vp.out.c 1 rfl
        have cp2 := Vp.out.c 2 rfl
        have cz0 := Vz.out.c 0 rfl
        have cz1 := Vz.out.c 1 rfl
        have cz2 := Vz.out.c 2 rfl
        have cs0 := Vs.out.c 0 rfl
        have cs1 := Vs.out.c 1 rfl
        have cs2 := Vs.out.c 2 rfl
        have lt := Vt.out.lt
        have lp := Vp.out.lt
        have lz := Vz.out.lt
        have ls := Vs.out.lt
        have fs := Vs.out.f
        have hEqw6 : w.heap.size ≤ w6.heap.size := hB6.size
        have e0 : w6.cell? ⟨gZ, oZ + j * 3, none⟩ = some (.int .i64 (pZ : Int)) := (World.cell?_of_block (hB6.block gZ hgZ)).trans HCZ.out.1
        have e1 : w6.cell? ⟨gZ, oZ + j * 3 + 1, none⟩ = some (.int .i64 (aZ : Int)) := (World.cell?_of_block (hB6.block gZ hgZ)).trans HCZ.out.2.1
        have e2 : w6.cell? ⟨gZ, oZ + j * 3 + 2, none⟩ = some (.int .i64 (bZ : Int)) := (World.cell?_of_block (hB6.block gZ hgZ)).trans HCZ.out.2.2
        have yct0 : w6.drew.cell? ⟨w.heap.size, 0, none⟩ = some (.int .i64 (n : Int)) := ct0
        have yct1 : w6.drew.cell? ⟨w.heap.size, 1, none⟩ = some (.slice (some ⟨gX, oX, none⟩) n c1) := ct1
        have yct2 : w6.drew.cell? ⟨w.heap.size, 2, none⟩ = some (.slice (some ⟨gZ, oZ, none⟩) n c2) := ct2
        have ye0 : w6.drew.cell? ⟨gZ, oZ + j * 3, none⟩ = some (.int .i64 (pZ : Int)) := e0
        have ye1 : w6.drew.cell? ⟨gZ, oZ + j * 3 + 1, none⟩ = some (.int .i64 (aZ : Int)) := e1
        have ye2 : w6.drew.cell? ⟨gZ, oZ + j * 3 + 2, none⟩ = some (.int .i64 (bZ : Int)) := e2
        refine wp_region_x (fun w' => w'.cell? ⟨w.heap.size, 0, none⟩ = some (.int .i64 (n : Int)) ∧ w'.cell? ⟨w.heap.size, 1, none⟩ = some (.slice (some ⟨gX, oX, none⟩) n c1) ∧ w'.cell? ⟨w.heap.size, 2, none⟩ = some (.slice (some ⟨gZ, oZ, none⟩) n c2) ∧ w'.cell? ⟨gZ, oZ + j * 3, none⟩ = some (.int .i64 (pZ : Int)) ∧ w'.cell? ⟨gZ, oZ + j * 3 + 1, none⟩ = some (.int .i64 (aZ : Int)) ∧ w'.cell? ⟨gZ, oZ + j * 3 + 2, none⟩ = some (.int .i64 (bZ : Int))) 1000 (by kernel_rfl) ⟨yct0, yct1, yct2, ye0, ye1, ye2⟩ (fun hS0 => ?_)
        refine wpAnyX_take (i := 1) (oi := _) (v := ?_) rfl (by kernel_rfl) (by kernel_rfl) (by kernel_rfl) (by kernel_rfl) (fun _ _ _ h => h) (Or.inl ⟨by rfl, ?_⟩) hS0 ?_
        rotate_left 1
        · (intro w hSw; (try dsimp only at hSw); go_simp; (try with_reducible rfl))
        try simp only [Act.put, List.setIfInBounds_toArray, List.set_cons_zero, List.set_cons_succ]
        refine wpAnyX_take (i := 2) (oi := _) (v := ?_) rfl (by kernel_rfl) (by kernel_rfl) (by kernel_rfl) (by kernel_rfl) (fun _ _ _ h => h) (Or.inl ⟨by rfl, ?_⟩) hS0 ?_
        rotate_left 1
        · (intro w hSw; (try dsimp only at hSw); go_simp; (try with_reducible rfl))
        try simp only [Act.put, List.setIfInBounds_toArray, List.set_cons_zero, List.set_cons_succ]
        refine wpAnyX_take (i := 3) (oi := _) (v := ?_) rfl (by kernel_rfl) (by kernel_rfl) (by kernel_rfl) (by kernel_rfl) (fun _ _ _ h => h) (Or.inl ⟨by rfl, ?_⟩) hS0 ?_
        rotate_left 1
        · (intro w hSw; (try dsimp only at hSw); go_simp; (try with_reducible rfl))
        try simp only [Act.put, List.setIfInBounds_toArray, List.set_cons_zero, List.set_cons_succ]
        refine wpAnyX_take (i := 4) (oi := _) (v := ?_) rfl (by kernel_rfl) (by kernel_rfl) (by kernel_rfl) (by kernel_rfl) (fun _ _ _ h => h) (Or.inl ⟨by rfl, ?_⟩) hS0 ?_
        rotate_left 1
        · (intro w hSw; (try dsimp only at hSw); go_simp; (try with_reducible rfl))
        try simp only [Act.put, List.setIfInBounds_toArray, List.set_cons_zero, List.set_cons_succ]
        refine wpAnyX_take (i := 5) (oi := _) (v := ?_) rfl (by kernel_rfl) (by kernel_rfl) (by kernel_rfl) (by kernel_rfl) (fun _ _ _ h => h) (Or.inl ⟨by rfl, ?_⟩) hS0 ?_
        rotate_left 1
        · (intro w hSw; (try dsimp only at hSw); go_simp; (try with_reducible rfl))
        try simp only [Act.put, List.setIfInBounds_toArray, List.set_cons_zero, List.set_cons_succ]
        refine wpAnyX_one (i := 0) (o := _) rfl (by kernel_rfl) (fun K hK => ?_)
        go_simp
        refine hK.out _ _ (fun _ => ?_) (fun hS1 => ?_)
        · exact hS0
        clear hK K
        have hS1 := hS1 (by decide)
        try simp only [Act.put, List.setIfInBounds_toArray, List.set_cons_zero, List.set_cons_succ]
        refine wpAnyX_one (i := 6) (o := _) rfl (by kernel_rfl) (fun K hK => ?_)
        go_simp
        refine (l7m (by omega) (by omega) (p32 q5 hX1.out) (p32 q5 hZ1.out) (p32 q5 aZ2) (p32 q5 bZ2) _).mono ?_
        rintro ee w9 ⟨rfl, hb9⟩
        refine hK.out _ _ (fun _ => ?_) (fun hS2 => ?_)
        · exact ⟨kcl hb9 (hS1.1), kcl hb9 (hS1.2.1), kcl hb9 (hS1.2.2.1), kcl hb9 (hS1.2.2.2.1), kcl hb9 (hS1.2.2.2.2.1), kcl hb9 (hS1.2.2.2.2.2)⟩
        clear hK K
        have hS2 := hS2 (by decide)
        try simp only [Act.put, List.setIfInBounds_toArray, List.set_cons_zero, List.set_cons_succ]
        refine wpAnyX_one (i := 7) (o := _) rfl (by kernel_rfl) (fun K hK => ?_)
        have XS9 := Vs.out.mono (show Below w6.heap.size w6 w9 from ⟨hb9.os, hb9.tape, hb9.output, hb9.size, hb9.block⟩)
        have cq0 := XS9.c 0 rfl
        have cq1 := XS9.c 1 rfl
        have cq2 := XS9.c 2 rfl
        have fq := XS9.f
        go_simp
        refine hK.out _ _ (fun _ => ?_) (fun hS3 => ?_)
        · exact ⟨kclS3 (by omega) (hS2.1), kclS3 (by omega) (hS2.2.1), kclS3 (by omega) (hS2.2.2.1), kclS3 (by omega) (hS2.2.2.2.1), kclS3 (by omega) (hS2.2.2.2.2.1), kclS3 (by omega) (hS2.2.2.2.2.2)⟩
        clear hK K
        have hS3 := hS3 (by decide)
        try simp only [Act.put, List.setIfInBounds_toArray, List.set_cons_zero, List.set_cons_succ]
        refine wpAnyX_done (by kernel_rfl) ?_ _
        have hWq : Below w6.heap.size w6 w9 := ⟨hb9.os, hb9.tape, hb9.output, hb9.size, hb9.block⟩
        obtain ⟨⟨P2, X2, Z2⟩, hu2⟩ : ∃ u : St, u = mulN (P1, X1, Z1) (pZ, aZ, bZ) := ⟨_, rfl⟩
        have hm2 : (mulV P1 X1 Z1 pZ aZ bZ) = pv P2 X2 Z2 := by
          have h9 := hu2
          unfold mulN at h9
          simp only [Prod.mk.injEq] at h9
          obtain ⟨e1, e2, e3⟩ := h9
          rw [e1, e2, e3]; rfl
        have hok2 : okS n (P2, X2, Z2) := by rw [hu2]; exact okS_mul ⟨hX1.out, hZ1.out⟩ ⟨aZ2, bZ2⟩
        have hP2 : P2 < 4 := hok2.1
        have hX2 := lay hok2.2.1
        have hZ2 := lay hok2.2.2
        have HOK2 := lay hok2
        clear hok2
        obtain ⟨P3, hP3⟩ : ∃ q, q = (P2 + 1) % 4 := ⟨_, rfl⟩
        have e9 : ((P2 : Int) + 1).tmod 4 = (P3 : Int) := by rw [Int.tmod_eq_emod_of_nonneg (by omega)]; omega
        have e8 : ((P2 : Int) + 1) % 4 = (P3 : Int) := by omega
        have HP3 := lay hP3
        clear hP3
        have QS : Bb (((w9.setCell ⟨w.heap.size + 1 + 1 + 1, 0, none⟩ (.int .i64 (P2 : Int))).setCell ⟨w.heap.size + 1 + 1 + 1, 1, none⟩ (.int .i64 (X2 : Int))).setCell ⟨w.heap.size + 1 + 1 + 1, 2, none⟩ (.int .i64 (Z2 : Int))) (w.heap.size + 1 + 1 + 1) 43 #[.int .i64 (P2 : Int), .int .i64 (X2 : Int), .int .i64 (Z2 : Int)] := Bb.set (Bb.set (Bb.set (Vs.out.mono hWq) rfl) rfl) rfl
        have qs0 := QS.c 0 rfl
        have qsf := QS.f
        rw [hm2]
        go_wp2_with (fail)
        go_roundg m
        case measure => omega
        case rel =>
          refine ⟨j + 1, P3, X2, Z2, by omega, by go_num, ?_, ?_, ((((Vt.out.mono hWq).far (by omega)).far (by omega)).far (by omega)).far (by omega), ((((Vp.out.mono hWq).far (by omega)).far (by omega)).far (by omega)).far (by omega), ((((Vz.out.mono hWq).far (by omega)).far (by omega)).far (by omega)).far (by omega), QS.set rfl, ?_⟩
          · show (P3, X2, Z2) = _
            rw [← imgS_3 hl HS.out HNX.out HNZ.out, HP3.out, ← hu1, ← hu2]
          · exact ⟨by show P3 < 4; have := HP3.out; omega, HOK2.out.2⟩
          · exact Below.setCell (Below.setCell (Below.setCell (Below.setCell (chn hB6 hWq hB6.size) (by show w.heap.size ≤ w.heap.size + 1 + 1 + 1; omega) _) (by show w.heap.size ≤ w.heap.size + 1 + 1 + 1; omega) _) (by show w.heap.size ≤ w.heap.size + 1 + 1 + 1; omega) _) (by show w.heap.size ≤ w.heap.size + 1 + 1 + 1; omega) _
end Go.Proofs.Ytjedpeoafpljhaa.C4
