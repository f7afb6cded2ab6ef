/- compose: the program. -/
import Derived.Test.YtjedpeoafpljhaaPcd
import Derived.Test.YtjedpeoafpljhaaPimi
namespace Go.Proofs.Ytjedpeoafpljhaa.C4
open Go.RowKit
set_option linter.unusedVariables false
set_option linter.unusedSimpArgs false
attribute [local irreducible] World.setCell

set_option maxRecDepth 100000 in
set_option maxHeartbeats 16000000 in
theorem icomp {n c1 c2 d1 d2 r : Nat} {A1 A2 B1 B2 : Option Addr} {xs zs us vs : List PauliV} {w : World} (q1 : 1 ≤ n) (q5 : n ≤ 5) (hPh : PhM 63 w r) (hA : Rd pauliE w A1 xs) (hB : Rd pauliE w A2 zs) (hC : Rd pauliE w B1 us) (hD : Rd pauliE w B2 vs) (hx : okL n xs) (hz : okL n zs) (hu : okL n us) (hv : okL n vs) :
    Calls Try.prog 89 #[.map (some r), tableauV (n : Int) A1 n c1 A2 n c2, tableauV (n : Int) B1 n d1 B2 n d2] w fun ee w' => ∃ gx gz : Nat, ee = .returned (tableauV n (some ⟨gx, 0, none⟩) n n (some ⟨gz, 0, none⟩) n n) ∧ Bk pauliE w' gx 43 (tab n (thF n us vs xs)) ∧ Bk pauliE w' gz 43 (tab n (thF n us vs zs)) ∧ w.heap.size ≤ gx ∧ w.heap.size ≤ gz ∧ gx ≠ gz ∧ Below w.heap.size w w' := by
  have HPH := lay hPh
  have hrw := hPh.lt
  have HA := lay hA
  have HB := lay hB
  have HC := lay hC
  have HD := lay hD
  have OX := lay hx
  have OZ := lay hz
  have OU := lay hu
  have OV := lay hv
  clear hPh hA hB hC hD hx hz hu hv
  go_enter Try.func89, Try.ntmps89
  go_wp2_with (fail)
  refine (idt q1 q5 _).mono ?_
  rintro ee w1 ⟨gx, gz, rfl, hK1, hK2, l1, l2, hne, hb1⟩
  have hz1 := hb1.size
  (try simp only [World.size_alloc] at hz1 l1 l2)
  have Ya : Hid (Bb w1 (w.heap.size) 53 #[.int .i64 (n : Int), .slice A1 n c1, .slice A2 n c2]) := by show Bb _ _ _ _; (repeat' (first | (with_reducible assumption) | (refine Bb.new (by first | (with_reducible rfl) | (simp; done))) | (with_reducible refine Bb.alloc ?_ _) | (with_reducible refine Bb.drew ?_) | (with_reducible refine Bb.drewN ?_ _) | (with_reducible refine Bb.mono ?_ (by assumption)) | (with_reducible refine Bb.far ?_ (by (try simp only [World.size_alloc, World.size_drew]); omega)) | (with_reducible refine Bb.set ?_ rfl) | (with_reducible refine Bb.grown ?_ (by assumption) (by assumption))))
  have Yb : Hid (Bb w1 (w.heap.size + 1) 53 #[.int .i64 (n : Int), .slice B1 n d1, .slice B2 n d2]) := by show Bb _ _ _ _; (repeat' (first | (with_reducible assumption) | (refine Bb.new (by first | (with_reducible rfl) | (simp; done))) | (with_reducible refine Bb.alloc ?_ _) | (with_reducible refine Bb.drew ?_) | (with_reducible refine Bb.drewN ?_ _) | (with_reducible refine Bb.mono ?_ (by assumption)) | (with_reducible refine Bb.far ?_ (by (try simp only [World.size_alloc, World.size_drew]); omega)) | (with_reducible refine Bb.set ?_ rfl) | (with_reducible refine Bb.grown ?_ (by assumption) (by assumption))))
  have Yz : Hid (Bb w1 (w.heap.size + 1 + 1) 53 #[.int .i64 0, .slice none 0 0, .slice none 0 0]) := by show Bb _ _ _ _; (repeat' (first | (with_reducible assumption) | (refine Bb.new (by first | (with_reducible rfl) | (simp; done))) | (with_reducible refine Bb.alloc ?_ _) | (with_reducible refine Bb.drew ?_) | (with_reducible refine Bb.drewN ?_ _) | (with_reducible refine Bb.mono ?_ (by assumption)) | (with_reducible refine Bb.far ?_ (by (try simp only [World.size_alloc, World.size_drew]); omega)) | (with_reducible refine Bb.set ?_ rfl) | (with_reducible refine Bb.grown ?_ (by assumption) (by assumption))))
  have hB1 : Below w.heap.size w w1 := by (repeat' (first | (with_reducible exact Below.refl _ _) | (with_reducible assumption) | (with_reducible refine Below.alloc ?_ ?_ _) | (with_reducible refine Below.drew ?_) | (with_reducible refine bdN ?_ _) | (with_reducible refine Below.setCell ?_ ?_ _) | (with_reducible refine chn ?_ (by assumption) ?_) | omega | (simp; done) | (simp; omega)))
  have lgx := hK1.lt
  have lgz := hK2.lt
  have ca0 := Ya.out.c 0 rfl
  have ca1 := Ya.out.c 1 rfl
  have ca2 := Ya.out.c 2 rfl
  have la := Ya.out.lt
  have K1 := lay hK1
  have K2 := lay hK2
  clear hb1 hK1 hK2
  go_wp2_with (fail)
  go_loopg [14] n (fun k s1 wr => ∃ j : Nat, j + k = n ∧ s1 = .int .i64 (j : Int) ∧ Hid (Bb wr (w.heap.size) 53 #[.int .i64 (n : Int), .slice A1 n c1, .slice A2 n c2]) ∧ Hid (Bb wr (w.heap.size + 1) 53 #[.int .i64 (n : Int), .slice B1 n d1, .slice B2 n d2]) ∧ Hid (Bb wr (w.heap.size + 1 + 1) 53 #[.int .i64 0, .slice none 0 0, .slice none 0 0]) ∧ Hid (Bb wr (w1.heap.size) 53 #[.int .i64 (n : Int), .slice (some ⟨gx, 0, none⟩) n n, .slice (some ⟨gz, 0, none⟩) n n]) ∧ Hid (Bk pauliE wr gx 43 (mixL (thF n us vs xs) genX n j)) ∧ Hid (Bk pauliE wr gz 43 (mixL (thF n us vs zs) genZ n j)) ∧ Below w.heap.size w wr)
  case atStart =>
    have Ra := Ya.out
    have Rb := Yb.out
    have Rz := Yz.out
    refine ⟨0, by omega, rfl, ?_, ?_, ?_, ?_, ?_, ?_, ?_⟩
    · show Bb _ _ _ _; exact Ra.alloc _
    · show Bb _ _ _ _; exact Rb.alloc _
    · show Bb _ _ _ _; exact Rz.alloc _
    · show Bb _ _ _ _; exact Bb.new rfl
    · show Bk _ _ _ _ _; rw [mixL_0]; exact K1.out.alloc _
    · show Bk _ _ _ _ _; rw [mixL_0]; exact K2.out.alloc _
    · (repeat' (first | (with_reducible exact Below.refl _ _) | (with_reducible assumption) | (with_reducible refine Below.alloc ?_ ?_ _) | (with_reducible refine Below.drew ?_) | (with_reducible refine bdN ?_ _) | (with_reducible refine Below.setCell ?_ ?_ _) | (with_reducible refine chn ?_ (by assumption) ?_) | omega | (simp; done) | (simp; omega)))
  case round =>
    obtain ⟨j, hj, rfl, Xa, Xb, Xz, Xo, HX, HZ, hBr⟩ := hrel
    obtain ⟨wr, rfl⟩ : ∃ W, W = wr := ⟨_, rfl⟩
    clear Ya Yb Yz K1 K2 ca0 ca1 ca2 la
    have hBs := hBr.size
    have ca0 := Xa.out.c 0 rfl
    have ca1 := Xa.out.c 1 rfl
    have ca2 := Xa.out.c 2 rfl
    have cb0 := Xb.out.c 0 rfl
    have cb1 := Xb.out.c 1 rfl
    have cb2 := Xb.out.c 2 rfl
    have cz0 := Xz.out.c 0 rfl
    have cz1 := Xz.out.c 1 rfl
    have cz2 := Xz.out.c 2 rfl
    have co0 := Xo.out.c 0 rfl
    have co1 := Xo.out.c 1 rfl
    have co2 := Xo.out.c 2 rfl
    have la := Xa.out.lt
    have lb := Xb.out.lt
    have lz := Xz.out.lt
    have lo := Xo.out.lt
    have fz := Xz.out.f
    cases gk with
    | zero =>
      obtain rfl : n = j := by omega
      go_wp2_with (fail)
      refine bodyPost_ret (v := tableauV n (some ⟨gx, 0, none⟩) n n (some ⟨gz, 0, none⟩) n n) (by first | (simp [results, Try.results89, go_sem, *]; done) | (simp (disch := (first | omega | (simp; done) | (simp; omega))) [results, Try.results89, go_sem, *]; done) | (simp only [results, Try.results89]; go_simp; done)) rfl ⟨gx, gz, rfl, ?_, ?_, by omega, by omega, hne, ?_⟩
      · rw [← mixL_n _ genX]; exact (((HX.out).far (by show gx ≠ (w.heap.size + 1 + 1); omega) _).far (by show gx ≠ (w.heap.size + 1 + 1); omega) _).far (by show gx ≠ (w.heap.size + 1 + 1); omega) _
      · rw [← mixL_n _ genZ]; exact (((HZ.out).far (by show gz ≠ (w.heap.size + 1 + 1); omega) _).far (by show gz ≠ (w.heap.size + 1 + 1); omega) _).far (by show gz ≠ (w.heap.size + 1 + 1); omega) _
      · (repeat' (first | (with_reducible exact Below.refl _ _) | (with_reducible assumption) | (with_reducible refine Below.alloc ?_ ?_ _) | (with_reducible refine Below.drew ?_) | (with_reducible refine bdN ?_ _) | (with_reducible refine Below.setCell ?_ ?_ _) | (with_reducible refine chn ?_ (by assumption) ?_) | omega | (simp; done) | (simp; omega)))
    | succ m =>
      have hlt : j < n := by omega
      have jl : (j : Int) < (n : Int) := by omega
      obtain ⟨pX, aX, bX, hx, pX3, aX2, bX2, nX⟩ := okL_at OX.out hlt
      obtain ⟨pZ, aZ, bZ, hz, pZ3, aZ2, bZ2, nZ⟩ := okL_at OZ.out hlt
      obtain ⟨gX, oX, rfl, hgX, hcX⟩ := HA.out.atPauli hx
      obtain ⟨gZ, oZ, rfl, hgZ, hcZ⟩ := HB.out.atPauli hz
      obtain ⟨⟨P1, X1, Z1⟩, hr1⟩ : ∃ s : St, imgS aX bX us vs pX n = s := ⟨_, rfl⟩
      obtain ⟨⟨P2, X2, Z2⟩, hr2⟩ : ∃ s : St, imgS aZ bZ us vs pZ n = s := ⟨_, rfl⟩
      have hrX := lay hr1
      have hrZ := lay hr2
      have HCX := lay hcX
      have HCZ := lay hcZ
      have V1 : Hid (pv P1 X1 Z1 = thF n us vs xs j) := imV_of nX hr1
      have V2 : Hid (pv P2 X2 Z2 = thF n us vs zs j) := imV_of nZ hr2
      clear hx hz hcX hcZ nX nZ hr1 hr2
      go_wp2_with (fail)
      have e0 : wr.cell? ⟨gX, oX + j * 3, none⟩ = some (.int .i64 (pX : Int)) := (World.cell?_of_block (hBr.block gX hgX)).trans HCX.out.1
      have e1 : wr.cell? ⟨gX, oX + j * 3 + 1, none⟩ = some (.int .i64 (aX : Int)) := (World.cell?_of_block (hBr.block gX hgX)).trans HCX.out.2.1
      have e2 : wr.cell? ⟨gX, oX + j * 3 + 2, none⟩ = some (.int .i64 (bX : Int)) := (World.cell?_of_block (hBr.block gX hgX)).trans HCX.out.2.2
      have HPW_ := lay ((HPH.out.kept (row := none) ⟨hBr.os, hBr.tape, hBr.output, hBr.size, fun k hk _ => hBr.block k hk⟩ (by simp)))
      have RC := lay (HC.out.mono hBr)
      have RD := lay (HD.out.mono hBr)
      have yca0 : wr.drew.cell? ⟨w.heap.size, 0, none⟩ = some (.int .i64 (n : Int)) := ca0
      have yca1 : wr.drew.cell? ⟨w.heap.size, 1, none⟩ = some (.slice (some ⟨gX, oX, none⟩) n c1) := ca1
      have yca2 : wr.drew.cell? ⟨w.heap.size, 2, none⟩ = some (.slice (some ⟨gZ, oZ, none⟩) n c2) := ca2
      have ycb0 : wr.drew.cell? ⟨w.heap.size + 1, 0, none⟩ = some (.int .i64 (n : Int)) := cb0
      have ycb1 : wr.drew.cell? ⟨w.heap.size + 1, 1, none⟩ = some (.slice B1 n d1) := cb1
      have ycb2 : wr.drew.cell? ⟨w.heap.size + 1, 2, none⟩ = some (.slice B2 n d2) := cb2
      have yco0 : wr.drew.cell? ⟨w1.heap.size, 0, none⟩ = some (.int .i64 (n : Int)) := co0
      have yco1 : wr.drew.cell? ⟨w1.heap.size, 1, none⟩ = some (.slice (some ⟨gx, 0, none⟩) n n) := co1
      have yco2 : wr.drew.cell? ⟨w1.heap.size, 2, none⟩ = some (.slice (some ⟨gz, 0, none⟩) n n) := co2
      have ye0 : wr.drew.cell? ⟨gX, oX + j * 3, none⟩ = some (.int .i64 (pX : Int)) := e0
      have ye1 : wr.drew.cell? ⟨gX, oX + j * 3 + 1, none⟩ = some (.int .i64 (aX : Int)) := e1
      have ye2 : wr.drew.cell? ⟨gX, oX + j * 3 + 2, none⟩ = some (.int .i64 (bX : Int)) := e2
      refine wp_region_x (fun w' => w'.cell? ⟨w.heap.size, 0, none⟩ = some (.int .i64 (n : Int)) ∧ w'.cell? ⟨w.heap.size, 1, none⟩ = some (.slice (some ⟨gX, oX, none⟩) n c1) ∧ w'.cell? ⟨w.heap.size, 2, none⟩ = some (.slice (some ⟨gZ, oZ, none⟩) n c2) ∧ w'.cell? ⟨w.heap.size + 1, 0, none⟩ = some (.int .i64 (n : Int)) ∧ w'.cell? ⟨w.heap.size + 1, 1, none⟩ = some (.slice B1 n d1) ∧ w'.cell? ⟨w.heap.size + 1, 2, none⟩ = some (.slice B2 n d2) ∧ w'.cell? ⟨w1.heap.size, 0, none⟩ = some (.int .i64 (n : Int)) ∧ w'.cell? ⟨w1.heap.size, 1, none⟩ = some (.slice (some ⟨gx, 0, none⟩) n n) ∧ w'.cell? ⟨w1.heap.size, 2, none⟩ = some (.slice (some ⟨gz, 0, none⟩) n n) ∧ w'.cell? ⟨gX, oX + j * 3, none⟩ = some (.int .i64 (pX : Int)) ∧ w'.cell? ⟨gX, oX + j * 3 + 1, none⟩ = some (.int .i64 (aX : Int)) ∧ w'.cell? ⟨gX, oX + j * 3 + 2, none⟩ = some (.int .i64 (bX : Int)) ∧ PhM 63 w' r) 12 (by kernel_rfl) ⟨yca0, yca1, yca2, ycb0, ycb1, ycb2, yco0, yco1, yco2, ye0, ye1, ye2, HPW_.out.drew⟩ (fun hS0 => ?_)
      refine wpAnyX_take (i := 0) (oi := _) (v := ?_) rfl (by kernel_rfl) (by kernel_rfl) (by kernel_rfl) (by kernel_rfl) (fun _ _ _ h => h) (Or.inl ⟨by rfl, ?_⟩) hS0 ?_
      rotate_left 1
      · (intro w hSw; (try dsimp only at hSw); go_simp; (try with_reducible rfl))
      try simp only [Act.put, List.setIfInBounds_toArray, List.set_cons_zero, List.set_cons_succ]
      refine wpAnyX_take (i := 1) (oi := _) (v := ?_) rfl (by kernel_rfl) (by kernel_rfl) (by kernel_rfl) (by kernel_rfl) (fun _ _ _ h => h) (Or.inl ⟨by rfl, ?_⟩) hS0 ?_
      rotate_left 1
      · (intro w hSw; (try dsimp only at hSw); go_simp; (try with_reducible rfl))
      try simp only [Act.put, List.setIfInBounds_toArray, List.set_cons_zero, List.set_cons_succ]
      refine wpAnyX_take (i := 2) (oi := _) (v := ?_) rfl (by kernel_rfl) (by kernel_rfl) (by kernel_rfl) (by kernel_rfl) (fun _ _ _ h => h) (Or.inl ⟨by rfl, ?_⟩) hS0 ?_
      rotate_left 1
      · (intro w hSw; (try dsimp only at hSw); go_simp; (try with_reducible rfl))
      try simp only [Act.put, List.setIfInBounds_toArray, List.set_cons_zero, List.set_cons_succ]
      refine wpAnyX_take (i := 3) (oi := _) (v := ?_) rfl (by kernel_rfl) (by kernel_rfl) (by kernel_rfl) (by kernel_rfl) (fun _ _ _ h => h) (Or.inl ⟨by rfl, ?_⟩) hS0 ?_
      rotate_left 1
      · (intro w hSw; (try dsimp only at hSw); go_simp; (try with_reducible rfl))
      try simp only [Act.put, List.setIfInBounds_toArray, List.set_cons_zero, List.set_cons_succ]
      refine wpAnyX_take (i := 4) (oi := _) (v := ?_) rfl (by kernel_rfl) (by kernel_rfl) (by kernel_rfl) (by kernel_rfl) (fun _ _ _ h => h) (Or.inl ⟨by rfl, ?_⟩) hS0 ?_
      rotate_left 1
      · (intro w hSw; (try dsimp only at hSw); go_simp; (try with_reducible rfl))
      try simp only [Act.put, List.setIfInBounds_toArray, List.set_cons_zero, List.set_cons_succ]
      refine wpAnyX_take (i := 5) (oi := _) (v := ?_) rfl (by kernel_rfl) (by kernel_rfl) (by kernel_rfl) (by kernel_rfl) (fun _ _ _ h => h) (Or.inl ⟨by rfl, ?_⟩) hS0 ?_
      rotate_left 1
      · (intro w hSw; (try dsimp only at hSw); go_simp; (try with_reducible rfl))
      try simp only [Act.put, List.setIfInBounds_toArray, List.set_cons_zero, List.set_cons_succ]
      refine wpAnyX_take (i := 6) (oi := _) (v := ?_) rfl (by kernel_rfl) (by kernel_rfl) (by kernel_rfl) (by kernel_rfl) (fun _ _ _ h => h) (Or.inl ⟨by rfl, ?_⟩) hS0 ?_
      rotate_left 1
      · (intro w hSw; (try dsimp only at hSw); go_simp; (try with_reducible rfl))
      try simp only [Act.put, List.setIfInBounds_toArray, List.set_cons_zero, List.set_cons_succ]
      refine wpAnyX_take (i := 7) (oi := _) (v := ?_) rfl (by kernel_rfl) (by kernel_rfl) (by kernel_rfl) (by kernel_rfl) (fun _ _ _ h => h) (Or.inl ⟨by rfl, ?_⟩) hS0 ?_
      rotate_left 1
      · (intro w hSw; (try dsimp only at hSw); go_simp; (try with_reducible rfl))
      try simp only [Act.put, List.setIfInBounds_toArray, List.set_cons_zero, List.set_cons_succ]
      refine wpAnyX_take (i := 8) (oi := _) (v := ?_) rfl (by kernel_rfl) (by kernel_rfl) (by kernel_rfl) (by kernel_rfl) (fun _ _ _ h => h) (Or.inl ⟨by rfl, ?_⟩) hS0 ?_
      rotate_left 1
      · (intro w hSw; (try dsimp only at hSw); go_simp; (try with_reducible rfl))
      try simp only [Act.put, List.setIfInBounds_toArray, List.set_cons_zero, List.set_cons_succ]
      refine wpAnyX_take (i := 9) (oi := _) (v := ?_) rfl (by kernel_rfl) (by kernel_rfl) (by kernel_rfl) (by kernel_rfl) (fun _ _ _ h => h) (Or.inl ⟨by rfl, ?_⟩) hS0 ?_
      rotate_left 1
      · (intro w hSw; (try dsimp only at hSw); go_simp; (try with_reducible rfl))
      try simp only [Act.put, List.setIfInBounds_toArray, List.set_cons_zero, List.set_cons_succ]
      refine wpAnyX_one (i := 10) (o := _) rfl (by kernel_rfl) (fun K hK => ?_)
      go_simp
      refine (iimg (xs := us) (zs := vs) q5 pX3 aX2 bX2 (hS0.2.2.2.2.2.2.2.2.2.2.2.2) ?_ ?_ OU.out OV.out hrX.out).mono ?_
      · exact RC.out
      · exact RD.out
      rintro ee w9 ⟨rfl, -, hb9⟩
      refine hK.out _ _ (fun _ => ?_) (fun hS1 => ?_)
      · exact ⟨kcl hb9 (hS0.1), kcl hb9 (hS0.2.1), kcl hb9 (hS0.2.2.1), kcl hb9 (hS0.2.2.2.1), kcl hb9 (hS0.2.2.2.2.1), kcl hb9 (hS0.2.2.2.2.2.1), kcl hb9 (hS0.2.2.2.2.2.2.1), kcl hb9 (hS0.2.2.2.2.2.2.2.1), kcl hb9 (hS0.2.2.2.2.2.2.2.2.1), kcl hb9 (hS0.2.2.2.2.2.2.2.2.2.1), kcl hb9 (hS0.2.2.2.2.2.2.2.2.2.2.1), kcl hb9 (hS0.2.2.2.2.2.2.2.2.2.2.2.1), PhM.mono (hS0.2.2.2.2.2.2.2.2.2.2.2.2) hb9⟩
      clear hK K
      have hS1 := hS1 (by decide)
      try simp only [Act.put, List.setIfInBounds_toArray, List.set_cons_zero, List.set_cons_succ]
      refine wpAnyX_take (i := 11) (oi := _) (v := ?_) rfl (by kernel_rfl) (by kernel_rfl) (by kernel_rfl) (by kernel_rfl) (fun _ _ _ h => h) (Or.inl ⟨by rfl, ?_⟩) hS1 ?_
      rotate_left 1
      · (intro w hSw; (try dsimp only at hSw); go_simp; (try with_reducible rfl))
      change wpAnyX _ _ _ _ _ _ _ _ (Act.put _ (some 28) _) _
      try simp only [Act.put, List.setIfInBounds_toArray, List.set_cons_zero, List.set_cons_succ]
      refine wpAnyX_one (i := 12) (o := _) rfl (by kernel_rfl) (fun K hK => ?_)
      have hWq : Below wr.heap.size wr w9 := ⟨hb9.os, hb9.tape, hb9.output, hb9.size, hb9.block⟩
      have K9 := (HX.out.mono hWq)
      obtain ⟨t0, t1, t2⟩ := Bk.atPauli (k := j) (x := genX j) K9 (mixL_at hlt)
      have tf := K9.fr
      go_simp
      refine hK.out _ _ (fun h => absurd rfl h) (fun _ => ?_)
      clear hK K
      try simp only [Act.put, List.setIfInBounds_toArray, List.set_cons_zero, List.set_cons_succ]
      refine wpAnyX_done (by kernel_rfl) ?_ _
      go_wp2_with (fail)
      obtain ⟨w5, hw5⟩ : ∃ W, W = ((w9.setCell ⟨gx, j * 3, none⟩ (.int .i64 (P1 : Int))).setCell ⟨gx, j * 3 + 1, none⟩ (.int .i64 (X1 : Int))).setCell ⟨gx, j * 3 + 2, none⟩ (.int .i64 (Z1 : Int)) := ⟨_, rfl⟩
      have Ya : Hid (Bb w5 (w.heap.size) 53 #[.int .i64 (n : Int), .slice (some ⟨gX, oX, none⟩) n c1, .slice (some ⟨gZ, oZ, none⟩) n c2]) := by show Bb _ _ _ _; rw [hw5]; exact (((Xa.out.mono hWq).far (by omega)).far (by omega)).far (by omega)
      have Yb : Hid (Bb w5 (w.heap.size + 1) 53 #[.int .i64 (n : Int), .slice B1 n d1, .slice B2 n d2]) := by show Bb _ _ _ _; rw [hw5]; exact (((Xb.out.mono hWq).far (by omega)).far (by omega)).far (by omega)
      have Yz : Hid (Bb w5 (w.heap.size + 1 + 1) 53 #[.int .i64 0, .slice none 0 0, .slice none 0 0]) := by show Bb _ _ _ _; rw [hw5]; exact (((Xz.out.mono hWq).far (by omega)).far (by omega)).far (by omega)
      have Yo : Hid (Bb w5 (w1.heap.size) 53 #[.int .i64 (n : Int), .slice (some ⟨gx, 0, none⟩) n n, .slice (some ⟨gz, 0, none⟩) n n]) := by show Bb _ _ _ _; rw [hw5]; exact (((Xo.out.mono hWq).far (by omega)).far (by omega)).far (by omega)
      have Y1 : Hid (Bk pauliE w5 gx 43 (mixL (thF n us vs xs) genX n (j + 1))) := by
        show Bk _ _ _ _ _
        have h9 := (HX.out.mono hWq).stPauli (pv P1 X1 Z1) (k := j) (by rw [mixL_len]; exact hlt)
        rw [V1.out, mixL_set hlt, ← V1.out] at h9
        rw [hw5]; exact h9
      have Y2 : Hid (Bk pauliE w5 gz 43 (mixL (thF n us vs zs) genZ n j)) := by show Bk _ _ _ _ _; rw [hw5]; exact (((HZ.out.mono hWq).far (by show gz ≠ gx; omega) _).far (by show gz ≠ gx; omega) _).far (by show gz ≠ gx; omega) _
      have hB5 : Below w.heap.size w w5 := by rw [hw5]; exact Below.setCell (Below.setCell (Below.setCell (chn hBr hWq hBr.size) (by show w.heap.size ≤ gx; omega) _) (by show w.heap.size ≤ gx; omega) _) (by show w.heap.size ≤ gx; omega) _
      rw [← hw5]
      clear hw5 hWq K9 t0 t1 t2 tf hS0 hS1 HPW_ RC RD Xa Xb Xz Xo HX HZ e0 e1 e2
      clear ca0 ca1 ca2 cb0 cb1 cb2 cz0 cz1 cz2 co0 co1 co2 la lb lz lo fz
      have ca0 := Ya.out.c 0 rfl
      have ca1 := Ya.out.c 1 rfl
      have ca2 := Ya.out.c 2 rfl
      have cb0 := Yb.out.c 0 rfl
      have cb1 := Yb.out.c 1 rfl
      have cb2 := Yb.out.c 2 rfl
      have cz0 := Yz.out.c 0 rfl
      have cz1 := Yz.out.c 1 rfl
      have cz2 := Yz.out.c 2 rfl
      have co0 := Yo.out.c 0 rfl
      have co1 := Yo.out.c 1 rfl
      have co2 := Yo.out.c 2 rfl
      have la := Ya.out.lt
      have lb := Yb.out.lt
      have lz := Yz.out.lt
      have lo := Yo.out.lt
      have fz := Yz.out.f
      have e0 : w5.cell? ⟨gZ, oZ + j * 3, none⟩ = some (.int .i64 (pZ : Int)) := (World.cell?_of_block (hB5.block gZ hgZ)).trans HCZ.out.1
      have e1 : w5.cell? ⟨gZ, oZ + j * 3 + 1, none⟩ = some (.int .i64 (aZ : Int)) := (World.cell?_of_block (hB5.block gZ hgZ)).trans HCZ.out.2.1
      have e2 : w5.cell? ⟨gZ, oZ + j * 3 + 2, none⟩ = some (.int .i64 (bZ : Int)) := (World.cell?_of_block (hB5.block gZ hgZ)).trans HCZ.out.2.2
      have HPW_ := lay ((HPH.out.kept (row := none) ⟨hB5.os, hB5.tape, hB5.output, hB5.size, fun k hk _ => hB5.block k hk⟩ (by simp)))
      have RC := lay (HC.out.mono hB5)
      have RD := lay (HD.out.mono hB5)
      have yca0 : w5.drew.cell? ⟨w.heap.size, 0, none⟩ = some (.int .i64 (n : Int)) := ca0
      have yca1 : w5.drew.cell? ⟨w.heap.size, 1, none⟩ = some (.slice (some ⟨gX, oX, none⟩) n c1) := ca1
      have yca2 : w5.drew.cell? ⟨w.heap.size, 2, none⟩ = some (.slice (some ⟨gZ, oZ, none⟩) n c2) := ca2
      have ycb0 : w5.drew.cell? ⟨w.heap.size + 1, 0, none⟩ = some (.int .i64 (n : Int)) := cb0
      have ycb1 : w5.drew.cell? ⟨w.heap.size + 1, 1, none⟩ = some (.slice B1 n d1) := cb1
      have ycb2 : w5.drew.cell? ⟨w.heap.size + 1, 2, none⟩ = some (.slice B2 n d2) := cb2
      have yco0 : w5.drew.cell? ⟨w1.heap.size, 0, none⟩ = some (.int .i64 (n : Int)) := co0
      have yco1 : w5.drew.cell? ⟨w1.heap.size, 1, none⟩ = some (.slice (some ⟨gx, 0, none⟩) n n) := co1
      have yco2 : w5.drew.cell? ⟨w1.heap.size, 2, none⟩ = some (.slice (some ⟨gz, 0, none⟩) n n) := co2
      have ye0 : w5.drew.cell? ⟨gZ, oZ + j * 3, none⟩ = some (.int .i64 (pZ : Int)) := e0
      have ye1 : w5.drew.cell? ⟨gZ, oZ + j * 3 + 1, none⟩ = some (.int .i64 (aZ : Int)) := e1
      have ye2 : w5.drew.cell? ⟨gZ, oZ + j * 3 + 2, none⟩ = some (.int .i64 (bZ : Int)) := e2
      refine wp_region_x (fun w' => w'.cell? ⟨w.heap.size, 0, none⟩ = some (.int .i64 (n : Int)) ∧ w'.cell? ⟨w.heap.size, 1, none⟩ = some (.slice (some ⟨gX, oX, none⟩) n c1) ∧ w'.cell? ⟨w.heap.size, 2, none⟩ = some (.slice (some ⟨gZ, oZ, none⟩) n c2) ∧ w'.cell? ⟨w.heap.size + 1, 0, none⟩ = some (.int .i64 (n : Int)) ∧ w'.cell? ⟨w.heap.size + 1, 1, none⟩ = some (.slice B1 n d1) ∧ w'.cell? ⟨w.heap.size + 1, 2, none⟩ = some (.slice B2 n d2) ∧ w'.cell? ⟨w1.heap.size, 0, none⟩ = some (.int .i64 (n : Int)) ∧ w'.cell? ⟨w1.heap.size, 1, none⟩ = some (.slice (some ⟨gx, 0, none⟩) n n) ∧ w'.cell? ⟨w1.heap.size, 2, none⟩ = some (.slice (some ⟨gz, 0, none⟩) n n) ∧ w'.cell? ⟨gZ, oZ + j * 3, none⟩ = some (.int .i64 (pZ : Int)) ∧ w'.cell? ⟨gZ, oZ + j * 3 + 1, none⟩ = some (.int .i64 (aZ : Int)) ∧ w'.cell? ⟨gZ, oZ + j * 3 + 2, none⟩ = some (.int .i64 (bZ : Int)) ∧ PhM 63 w' r) 12 (by kernel_rfl) ⟨yca0, yca1, yca2, ycb0, ycb1, ycb2, yco0, yco1, yco2, ye0, ye1, ye2, HPW_.out.drew⟩ (fun hS0 => ?_)
      refine wpAnyX_take (i := 0) (oi := _) (v := ?_) rfl (by kernel_rfl) (by kernel_rfl) (by kernel_rfl) (by kernel_rfl) (fun _ _ _ h => h) (Or.inl ⟨by rfl, ?_⟩) hS0 ?_
      rotate_left 1
      · (intro w hSw; (try dsimp only at hSw); go_simp; (try with_reducible rfl))
      try simp only [Act.put, List.setIfInBounds_toArray, List.set_cons_zero, List.set_cons_succ]
      refine wpAnyX_take (i := 1) (oi := _) (v := ?_) rfl (by kernel_rfl) (by kernel_rfl) (by kernel_rfl) (by kernel_rfl) (fun _ _ _ h => h) (Or.inl ⟨by rfl, ?_⟩) hS0 ?_
      rotate_left 1
      · (intro w hSw; (try dsimp only at hSw); go_simp; (try with_reducible rfl))
      try simp only [Act.put, List.setIfInBounds_toArray, List.set_cons_zero, List.set_cons_succ]
      refine wpAnyX_take (i := 2) (oi := _) (v := ?_) rfl (by kernel_rfl) (by kernel_rfl) (by kernel_rfl) (by kernel_rfl) (fun _ _ _ h => h) (Or.inl ⟨by rfl, ?_⟩) hS0 ?_
      rotate_left 1
      · (intro w hSw; (try dsimp only at hSw); go_simp; (try with_reducible rfl))
      try simp only [Act.put, List.setIfInBounds_toArray, List.set_cons_zero, List.set_cons_succ]
      refine wpAnyX_take (i := 3) (oi := _) (v := ?_) rfl (by kernel_rfl) (by kernel_rfl) (by kernel_rfl) (by kernel_rfl) (fun _ _ _ h => h) (Or.inl ⟨by rfl, ?_⟩) hS0 ?_
      rotate_left 1
      · (intro w hSw; (try dsimp only at hSw); go_simp; (try with_reducible rfl))
      try simp only [Act.put, List.setIfInBounds_toArray, List.set_cons_zero, List.set_cons_succ]
      refine wpAnyX_take (i := 4) (oi := _) (v := ?_) rfl (by kernel_rfl) (by kernel_rfl) (by kernel_rfl) (by kernel_rfl) (fun _ _ _ h => h) (Or.inl ⟨by rfl, ?_⟩) hS0 ?_
      rotate_left 1
      · (intro w hSw; (try dsimp only at hSw); go_simp; (try with_reducible rfl))
      try simp only [Act.put, List.setIfInBounds_toArray, List.set_cons_zero, List.set_cons_succ]
      refine wpAnyX_take (i := 5) (oi := _) (v := ?_) rfl (by kernel_rfl) (by kernel_rfl) (by kernel_rfl) (by kernel_rfl) (fun _ _ _ h => h) (Or.inl ⟨by rfl, ?_⟩) hS0 ?_
      rotate_left 1
      · (intro w hSw; (try dsimp only at hSw); go_simp; (try with_reducible rfl))
      try simp only [Act.put, List.setIfInBounds_toArray, List.set_cons_zero, List.set_cons_succ]
      refine wpAnyX_take (i := 6) (oi := _) (v := ?_) rfl (by kernel_rfl) (by kernel_rfl) (by kernel_rfl) (by kernel_rfl) (fun _ _ _ h => h) (Or.inl ⟨by rfl, ?_⟩) hS0 ?_
      rotate_left 1
      · (intro w hSw; (try dsimp only at hSw); go_simp; (try with_reducible rfl))
      try simp only [Act.put, List.setIfInBounds_toArray, List.set_cons_zero, List.set_cons_succ]
      refine wpAnyX_take (i := 7) (oi := _) (v := ?_) rfl (by kernel_rfl) (by kernel_rfl) (by kernel_rfl) (by kernel_rfl) (fun _ _ _ h => h) (Or.inl ⟨by rfl, ?_⟩) hS0 ?_
      rotate_left 1
      · (intro w hSw; (try dsimp only at hSw); go_simp; (try with_reducible rfl))
      try simp only [Act.put, List.setIfInBounds_toArray, List.set_cons_zero, List.set_cons_succ]
      refine wpAnyX_take (i := 8) (oi := _) (v := ?_) rfl (by kernel_rfl) (by kernel_rfl) (by kernel_rfl) (by kernel_rfl) (fun _ _ _ h => h) (Or.inl ⟨by rfl, ?_⟩) hS0 ?_
      rotate_left 1
      · (intro w hSw; (try dsimp only at hSw); go_simp; (try with_reducible rfl))
      try simp only [Act.put, List.setIfInBounds_toArray, List.set_cons_zero, List.set_cons_succ]
      refine wpAnyX_take (i := 9) (oi := _) (v := ?_) rfl (by kernel_rfl) (by kernel_rfl) (by kernel_rfl) (by kernel_rfl) (fun _ _ _ h => h) (Or.inl ⟨by rfl, ?_⟩) hS0 ?_
      rotate_left 1
      · (intro w hSw; (try dsimp only at hSw); go_simp; (try with_reducible rfl))
      try simp only [Act.put, List.setIfInBounds_toArray, List.set_cons_zero, List.set_cons_succ]
      refine wpAnyX_one (i := 10) (o := _) rfl (by kernel_rfl) (fun K hK => ?_)
      go_simp
      refine (iimg (xs := us) (zs := vs) q5 pZ3 aZ2 bZ2 (hS0.2.2.2.2.2.2.2.2.2.2.2.2) ?_ ?_ OU.out OV.out hrZ.out).mono ?_
      · exact RC.out
      · exact RD.out
      rintro ee w9 ⟨rfl, -, hb9⟩
      refine hK.out _ _ (fun _ => ?_) (fun hS1 => ?_)
      · exact ⟨kcl hb9 (hS0.1), kcl hb9 (hS0.2.1), kcl hb9 (hS0.2.2.1), kcl hb9 (hS0.2.2.2.1), kcl hb9 (hS0.2.2.2.2.1), kcl hb9 (hS0.2.2.2.2.2.1), kcl hb9 (hS0.2.2.2.2.2.2.1), kcl hb9 (hS0.2.2.2.2.2.2.2.1), kcl hb9 (hS0.2.2.2.2.2.2.2.2.1), kcl hb9 (hS0.2.2.2.2.2.2.2.2.2.1), kcl hb9 (hS0.2.2.2.2.2.2.2.2.2.2.1), kcl hb9 (hS0.2.2.2.2.2.2.2.2.2.2.2.1), PhM.mono (hS0.2.2.2.2.2.2.2.2.2.2.2.2) hb9⟩
      clear hK K
      have hS1 := hS1 (by decide)
      try simp only [Act.put, List.setIfInBounds_toArray, List.set_cons_zero, List.set_cons_succ]
      refine wpAnyX_take (i := 11) (oi := _) (v := ?_) rfl (by kernel_rfl) (by kernel_rfl) (by kernel_rfl) (by kernel_rfl) (fun _ _ _ h => h) (Or.inl ⟨by rfl, ?_⟩) hS1 ?_
      rotate_left 1
      · (intro w hSw; (try dsimp only at hSw); go_simp; (try with_reducible rfl))
      change wpAnyX _ _ _ _ _ _ _ _ (Act.put _ (some 40) _) _
      try simp only [Act.put, List.setIfInBounds_toArray, List.set_cons_zero, List.set_cons_succ]
      refine wpAnyX_one (i := 12) (o := _) rfl (by kernel_rfl) (fun K hK => ?_)
      have hWq : Below w5.heap.size w5 w9 := ⟨hb9.os, hb9.tape, hb9.output, hb9.size, hb9.block⟩
      have K9 := (Y2.out.mono hWq)
      obtain ⟨t0, t1, t2⟩ := Bk.atPauli (k := j) (x := genZ j) K9 (mixL_at hlt)
      have tf := K9.fr
      go_simp
      refine hK.out _ _ (fun h => absurd rfl h) (fun _ => ?_)
      clear hK K
      try simp only [Act.put, List.setIfInBounds_toArray, List.set_cons_zero, List.set_cons_succ]
      refine wpAnyX_done (by kernel_rfl) ?_ _
      go_wp2_with (fail)
      go_roundg m
      case measure => omega
      case rel =>
        refine ⟨j + 1, by omega, by go_num, (((Ya.out.mono hWq).far (by omega)).far (by omega)).far (by omega), (((Yb.out.mono hWq).far (by omega)).far (by omega)).far (by omega), (((Yz.out.mono hWq).far (by omega)).far (by omega)).far (by omega), (((Yo.out.mono hWq).far (by omega)).far (by omega)).far (by omega), ?_, ?_, ?_⟩
        · exact (((Y1.out.mono hWq).far (by show gx ≠ gz; omega) _).far (by show gx ≠ gz; omega) _).far (by show gx ≠ gz; omega) _
        · show Bk _ _ _ _ _
          have h9 := (Y2.out.mono hWq).stPauli (pv P2 X2 Z2) (k := j) (by rw [mixL_len]; exact hlt)
          rw [V2.out, mixL_set hlt, ← V2.out] at h9
          exact h9
        · exact Below.setCell (Below.setCell (Below.setCell (chn hB5 hWq hB5.size) (by show w.heap.size ≤ gz; omega) _) (by show w.heap.size ≤ gz; omega) _) (by show w.heap.size ≤ gz; omega) _

end Go.Proofs.Ytjedpeoafpljhaa.C4
