/- Composition: the model. -/
import Derived.Test.YtjedpeoafpljhaaPcd
import Derived.Test.YtjedpeoafpljhaaPims
import Derived.Test.YtjedpeoafpljhaaPis
namespace Go.Proofs.Ytjedpeoafpljhaa.C4
open Go.RowKit
set_option linter.unusedVariables false
set_option linter.unusedSimpArgs false
attribute [local irreducible] World.setCell

set_option maxRecDepth 100000 in
set_option maxHeartbeats 16000000 in
theorem scomp {n c1 c2 d1 d2 : Nat} {A1 A2 B1 B2 : Option Addr} {xs zs us vs : List PauliV} {w : World} (q1 : 1 ≤ n) (q5 : n ≤ 5) (hA : Rd pauliE w A1 xs) (hB : Rd pauliE w A2 zs) (hC : Rd pauliE w B1 us) (hD : Rd pauliE w B2 vs) (hx : okL n xs) (hz : okL n zs) (hu : okL n us) (hv : okL n vs) :
    Calls Try.prog 113 #[tableauV (n : Int) A1 n c1 A2 n c2, tableauV (n : Int) B1 n d1 B2 n d2] w fun ee w' => ∃ vx vz : Value, ee = .returned (.agg #[.int .i64 (n : Int), vx, vz]) ∧ Ow2 w' w.heap.size vx vz (tab n (thF n us vs xs)) (tab n (thF n us vs zs)) ∧ Below w.heap.size w w' := by
  obtain ⟨i0, hi0, iz0, iz1, iz2⟩ := info_parts infoPauli
  have HA := lay hA
  have HB := lay hB
  have HC := lay hC
  have HD := lay hD
  have OX := lay hx
  have OZ := lay hz
  have OU := lay hu
  have OV := lay hv
  clear hA hB hC hD hx hz hu hv
  go_enter Try.func113, Try.ntmps113
  go_wp2_with (fail)
  go_loopg [6] n (fun k s1 wr => ∃ (j : Nat) (X1 : Option Addr) (k1 : Nat) (Z1 : Option Addr) (k2 : Nat), j + k = n ∧ s1 = .int .i64 (j : Int) ∧ Hid (Bb wr (w.heap.size) 53 #[.int .i64 (n : Int), .slice A1 n c1, .slice A2 n c2]) ∧ Hid (Bb wr (w.heap.size + 1) 53 #[.int .i64 (n : Int), .slice B1 n d1, .slice B2 n d2]) ∧ Hid (Bb wr (w.heap.size + 1 + 1) 53 #[.int .i64 0, .slice none 0 0, .slice none 0 0]) ∧ Hid (Bb wr (w.heap.size + 1 + 1 + 1) 53 #[.int .i64 (n : Int), .slice X1 j k1, .slice Z1 j k2]) ∧ Hid (Ow2 wr (w.heap.size + 1 + 1 + 1 + 1) (.slice X1 j k1) (.slice Z1 j k2) (tab j (thF n us vs xs)) (tab j (thF n us vs zs))) ∧ (w.heap.size + 1 + 1 + 1 + 1) ≤ wr.heap.size ∧ Below w.heap.size w wr)
  case atStart =>
    refine ⟨0, none, 0, none, 0, by omega, rfl, ?_, ?_, ?_, ?_, ⟨Own.nil _ _ _, Own.nil _ _ _, fun b hb => by cases hb⟩, by simp, ?_⟩
    · show Bb _ _ _ _; (repeat' (first | (with_reducible assumption) | (refine Bb.new (by first | (with_reducible rfl) | (simp; done))) | (with_reducible refine Bb.alloc ?_ _) | (with_reducible refine Bb.drew ?_) | (with_reducible refine Bb.drewN ?_ _) | (with_reducible refine Bb.mono ?_ (by assumption)) | (with_reducible refine Bb.far ?_ (by (try simp only [World.size_alloc, World.size_drew]); omega)) | (with_reducible refine Bb.set ?_ rfl) | (with_reducible refine Bb.grown ?_ (by assumption) (by assumption))))
    · show Bb _ _ _ _; (repeat' (first | (with_reducible assumption) | (refine Bb.new (by first | (with_reducible rfl) | (simp; done))) | (with_reducible refine Bb.alloc ?_ _) | (with_reducible refine Bb.drew ?_) | (with_reducible refine Bb.drewN ?_ _) | (with_reducible refine Bb.mono ?_ (by assumption)) | (with_reducible refine Bb.far ?_ (by (try simp only [World.size_alloc, World.size_drew]); omega)) | (with_reducible refine Bb.set ?_ rfl) | (with_reducible refine Bb.grown ?_ (by assumption) (by assumption))))
    · show Bb _ _ _ _; (repeat' (first | (with_reducible assumption) | (refine Bb.new (by first | (with_reducible rfl) | (simp; done))) | (with_reducible refine Bb.alloc ?_ _) | (with_reducible refine Bb.drew ?_) | (with_reducible refine Bb.drewN ?_ _) | (with_reducible refine Bb.mono ?_ (by assumption)) | (with_reducible refine Bb.far ?_ (by (try simp only [World.size_alloc, World.size_drew]); omega)) | (with_reducible refine Bb.set ?_ rfl) | (with_reducible refine Bb.grown ?_ (by assumption) (by assumption))))
    · show Bb _ _ _ _; (repeat' (first | (with_reducible assumption) | (refine Bb.new (by first | (with_reducible rfl) | (simp; done))) | (with_reducible refine Bb.alloc ?_ _) | (with_reducible refine Bb.drew ?_) | (with_reducible refine Bb.drewN ?_ _) | (with_reducible refine Bb.mono ?_ (by assumption)) | (with_reducible refine Bb.far ?_ (by (try simp only [World.size_alloc, World.size_drew]); omega)) | (with_reducible refine Bb.set ?_ rfl) | (with_reducible refine Bb.grown ?_ (by assumption) (by assumption))))
    · (repeat' (first | (with_reducible exact Below.refl _ _) | (with_reducible assumption) | (with_reducible refine Below.alloc ?_ ?_ _) | (with_reducible refine Below.drew ?_) | (with_reducible refine bdN ?_ _) | (with_reducible refine Below.setCell ?_ ?_ _) | (with_reducible refine chn ?_ (by assumption) ?_) | omega | (simp; done) | (simp; omega)))
  case round =>
    obtain ⟨j, X1, k1, Z1, k2, hj, rfl, Xa, Xb, Xz, Xo, HO, hszr, hBr⟩ := hrel
    have hBs := hBr.size
    have ca0 := Xa.out.c 0 rfl
    have ca1 := Xa.out.c 1 rfl
    have ca2 := Xa.out.c 2 rfl
    have cb0 := Xb.out.c 0 rfl
    have cb1 := Xb.out.c 1 rfl
    have cb2 := Xb.out.c 2 rfl
    have cz0 := Xz.out.c 0 rfl
    have cz1 := Xz.out.c 1 rfl
    have cz2 := Xz.out.c 2 rfl
    have co0 := Xo.out.c 0 rfl
    have co1 := Xo.out.c 1 rfl
    have co2 := Xo.out.c 2 rfl
    have la := Xa.out.lt
    have lb := Xb.out.lt
    have lz := Xz.out.lt
    have lo := Xo.out.lt
    have fz := Xz.out.f
    cases gk with
    | zero =>
      obtain rfl : n = j := by omega
      go_wp2_with (fail)
      refine bodyPost_ret (v := .agg #[.int .i64 (n : Int), .slice X1 n k1, .slice Z1 n k2]) (by first | (simp [results, Try.results113, go_sem, *]; done) | (simp (disch := (first | omega | (simp; done) | (simp; omega))) [results, Try.results113, go_sem, *]; done) | (simp only [results, Try.results113]; go_simp; done)) rfl ⟨_, _, rfl, ?_, ?_⟩
      · exact (((HO.out.far (by show w.heap.size + 1 + 1 < _; omega) _).far (by show w.heap.size + 1 + 1 < _; omega) _).far (by show w.heap.size + 1 + 1 < _; omega) _).dn (by omega)
      · (repeat' (first | (with_reducible exact Below.refl _ _) | (with_reducible assumption) | (with_reducible refine Below.alloc ?_ ?_ _) | (with_reducible refine Below.drew ?_) | (with_reducible refine bdN ?_ _) | (with_reducible refine Below.setCell ?_ ?_ _) | (with_reducible refine chn ?_ (by assumption) ?_) | omega | (simp; done) | (simp; omega)))
    | succ m =>
      have hlt : j < n := by omega
      have jl : (j : Int) < (n : Int) := by omega
      have hmax : j + 1 ≤ maxLen := by unfold maxLen; omega
      have hby : (j + 1) * 24 ≤ 140737488355328 := by omega
      obtain ⟨pX, aX, bX, hx, pX3, aX2, bX2, nX⟩ := okL_at OX.out hlt
      obtain ⟨pZ, aZ, bZ, hz, pZ3, aZ2, bZ2, nZ⟩ := okL_at OZ.out hlt
      obtain ⟨gX, oX, rfl, hgX, hcX⟩ := HA.out.atPauli hx
      obtain ⟨gZ, oZ, rfl, hgZ, hcZ⟩ := HB.out.atPauli hz
      obtain ⟨⟨Pa, Xa1, Za1⟩, hr1⟩ : ∃ s : St, imgS aX bX us vs pX n = s := ⟨_, rfl⟩
      obtain ⟨⟨Pb, Xb1, Zb1⟩, hr2⟩ : ∃ s : St, imgS aZ bZ us vs pZ n = s := ⟨_, rfl⟩
      have hrX := lay hr1
      have hrZ := lay hr2
      have HCX := lay hcX
      have HCZ := lay hcZ
      have V1 : Hid (pv Pa Xa1 Za1 = thF n us vs xs j) := imV_of nX hr1
      have V2 : Hid (pv Pb Xb1 Zb1 = thF n us vs zs j) := imV_of nZ hr2
      clear hx hz hcX hcZ nX nZ hr1 hr2
      go_wp2_with (fail)
      have e0 : wr.cell? ⟨gX, oX + j * 3, none⟩ = some (.int .i64 (pX : Int)) := (World.cell?_of_block (hBr.block gX hgX)).trans HCX.out.1
      have e1 : wr.cell? ⟨gX, oX + j * 3 + 1, none⟩ = some (.int .i64 (aX : Int)) := (World.cell?_of_block (hBr.block gX hgX)).trans HCX.out.2.1
      have e2 : wr.cell? ⟨gX, oX + j * 3 + 2, none⟩ = some (.int .i64 (bX : Int)) := (World.cell?_of_block (hBr.block gX hgX)).trans HCX.out.2.2
      have ne0 : some w.heap.size ≠ (Value.slice X1 j k1).ownBlock := HO.out.neX (by omega)
      have ne1 : some (w.heap.size + 1) ≠ (Value.slice X1 j k1).ownBlock := HO.out.neX (by omega)
      have nez : some (w.heap.size + 1 + 1) ≠ (Value.slice X1 j k1).ownBlock := HO.out.neX (by omega)
      have neo : some (w.heap.size + 1 + 1 + 1) ≠ (Value.slice X1 j k1).ownBlock := HO.out.neX (by omega)
      have neg : some gX ≠ (Value.slice X1 j k1).ownBlock := HO.out.neX (by omega)
      have RC := lay (HC.out.mono hBr)
      have RD := lay (HD.out.mono hBr)
      have yca0 : wr.drew.cell? ⟨w.heap.size, 0, none⟩ = some (.int .i64 (n : Int)) := ca0
      have yca1 : wr.drew.cell? ⟨w.heap.size, 1, none⟩ = some (.slice (some ⟨gX, oX, none⟩) n c1) := ca1
      have yca2 : wr.drew.cell? ⟨w.heap.size, 2, none⟩ = some (.slice (some ⟨gZ, oZ, none⟩) n c2) := ca2
      have ycb0 : wr.drew.cell? ⟨w.heap.size + 1, 0, none⟩ = some (.int .i64 (n : Int)) := cb0
      have ycb1 : wr.drew.cell? ⟨w.heap.size + 1, 1, none⟩ = some (.slice B1 n d1) := cb1
      have ycb2 : wr.drew.cell? ⟨w.heap.size + 1, 2, none⟩ = some (.slice B2 n d2) := cb2
      have yco0 : wr.drew.cell? ⟨w.heap.size + 1 + 1 + 1, 0, none⟩ = some (.int .i64 (n : Int)) := co0
      have yco1 : wr.drew.cell? ⟨w.heap.size + 1 + 1 + 1, 1, none⟩ = some (.slice X1 j k1) := co1
      have yco2 : wr.drew.cell? ⟨w.heap.size + 1 + 1 + 1, 2, none⟩ = some (.slice Z1 j k2) := co2
      have ye0 : wr.drew.cell? ⟨gX, oX + j * 3, none⟩ = some (.int .i64 (pX : Int)) := e0
      have ye1 : wr.drew.cell? ⟨gX, oX + j * 3 + 1, none⟩ = some (.int .i64 (aX : Int)) := e1
      have ye2 : wr.drew.cell? ⟨gX, oX + j * 3 + 2, none⟩ = some (.int .i64 (bX : Int)) := e2
      refine wp_region_x (fun w' => w'.cell? ⟨w.heap.size, 0, none⟩ = some (.int .i64 (n : Int)) ∧ w'.cell? ⟨w.heap.size, 1, none⟩ = some (.slice (some ⟨gX, oX, none⟩) n c1) ∧ w'.cell? ⟨w.heap.size, 2, none⟩ = some (.slice (some ⟨gZ, oZ, none⟩) n c2) ∧ w'.cell? ⟨w.heap.size + 1, 0, none⟩ = some (.int .i64 (n : Int)) ∧ w'.cell? ⟨w.heap.size + 1, 1, none⟩ = some (.slice B1 n d1) ∧ w'.cell? ⟨w.heap.size + 1, 2, none⟩ = some (.slice B2 n d2) ∧ w'.cell? ⟨w.heap.size + 1 + 1 + 1, 0, none⟩ = some (.int .i64 (n : Int)) ∧ w'.cell? ⟨w.heap.size + 1 + 1 + 1, 1, none⟩ = some (.slice X1 j k1) ∧ w'.cell? ⟨w.heap.size + 1 + 1 + 1, 2, none⟩ = some (.slice Z1 j k2) ∧ w'.cell? ⟨gX, oX + j * 3, none⟩ = some (.int .i64 (pX : Int)) ∧ w'.cell? ⟨gX, oX + j * 3 + 1, none⟩ = some (.int .i64 (aX : Int)) ∧ w'.cell? ⟨gX, oX + j * 3 + 2, none⟩ = some (.int .i64 (bX : Int))) 12 (by kernel_rfl) ⟨yca0, yca1, yca2, ycb0, ycb1, ycb2, yco0, yco1, yco2, ye0, ye1, ye2⟩ (fun hS0 => ?_)
      refine wpAnyX_take (i := 0) (oi := _) (v := ?_) rfl (by kernel_rfl) (by kernel_rfl) (by kernel_rfl) (by kernel_rfl) (fun _ _ _ h => h) (Or.inl ⟨by rfl, ?_⟩) hS0 ?_
      rotate_left 1
      · (intro w hSw; (try dsimp only at hSw); go_simp; (try with_reducible rfl))
      try simp only [Act.put, List.setIfInBounds_toArray, List.set_cons_zero, List.set_cons_succ]
      refine wpAnyX_take (i := 1) (oi := _) (v := ?_) rfl (by kernel_rfl) (by kernel_rfl) (by kernel_rfl) (by kernel_rfl) (fun _ _ _ h => h) (Or.inl ⟨by rfl, ?_⟩) hS0 ?_
      rotate_left 1
      · (intro w hSw; (try dsimp only at hSw); go_simp; (try with_reducible rfl))
      try simp only [Act.put, List.setIfInBounds_toArray, List.set_cons_zero, List.set_cons_succ]
      refine wpAnyX_take (i := 2) (oi := _) (v := ?_) rfl (by kernel_rfl) (by kernel_rfl) (by kernel_rfl) (by kernel_rfl) (fun _ _ _ h => h) (Or.inl ⟨by rfl, ?_⟩) hS0 ?_
      rotate_left 1
      · (intro w hSw; (try dsimp only at hSw); go_simp; (try with_reducible rfl))
      try simp only [Act.put, List.setIfInBounds_toArray, List.set_cons_zero, List.set_cons_succ]
      refine wpAnyX_take (i := 3) (oi := _) (v := ?_) rfl (by kernel_rfl) (by kernel_rfl) (by kernel_rfl) (by kernel_rfl) (fun _ _ _ h => h) (Or.inl ⟨by rfl, ?_⟩) hS0 ?_
      rotate_left 1
      · (intro w hSw; (try dsimp only at hSw); go_simp; (try with_reducible rfl))
      try simp only [Act.put, List.setIfInBounds_toArray, List.set_cons_zero, List.set_cons_succ]
      refine wpAnyX_take (i := 4) (oi := _) (v := ?_) rfl (by kernel_rfl) (by kernel_rfl) (by kernel_rfl) (by kernel_rfl) (fun _ _ _ h => h) (Or.inl ⟨by rfl, ?_⟩) hS0 ?_
      rotate_left 1
      · (intro w hSw; (try dsimp only at hSw); go_simp; (try with_reducible rfl))
      try simp only [Act.put, List.setIfInBounds_toArray, List.set_cons_zero, List.set_cons_succ]
      refine wpAnyX_take (i := 5) (oi := _) (v := ?_) rfl (by kernel_rfl) (by kernel_rfl) (by kernel_rfl) (by kernel_rfl) (fun _ _ _ h => h) (Or.inl ⟨by rfl, ?_⟩) hS0 ?_
      rotate_left 1
      · (intro w hSw; (try dsimp only at hSw); go_simp; (try with_reducible rfl))
      try simp only [Act.put, List.setIfInBounds_toArray, List.set_cons_zero, List.set_cons_succ]
      refine wpAnyX_take (i := 6) (oi := _) (v := ?_) rfl (by kernel_rfl) (by kernel_rfl) (by kernel_rfl) (by kernel_rfl) (fun _ _ _ h => h) (Or.inl ⟨by rfl, ?_⟩) hS0 ?_
      rotate_left 1
      · (intro w hSw; (try dsimp only at hSw); go_simp; (try with_reducible rfl))
      try simp only [Act.put, List.setIfInBounds_toArray, List.set_cons_zero, List.set_cons_succ]
      refine wpAnyX_take (i := 7) (oi := _) (v := ?_) rfl (by kernel_rfl) (by kernel_rfl) (by kernel_rfl) (by kernel_rfl) (fun _ _ _ h => h) (Or.inl ⟨by rfl, ?_⟩) hS0 ?_
      rotate_left 1
      · (intro w hSw; (try dsimp only at hSw); go_simp; (try with_reducible rfl))
      try simp only [Act.put, List.setIfInBounds_toArray, List.set_cons_zero, List.set_cons_succ]
      refine wpAnyX_one (i := 8) (o := _) rfl (by kernel_rfl) (fun K hK => ?_)
      go_simp
      refine (simg (xs := us) (zs := vs) q5 pX3 aX2 bX2 ?_ ?_ OU.out OV.out hrX.out).mono ?_
      · exact RC.out
      · exact RD.out
      rintro ee w9 ⟨rfl, -, hb9⟩
      have hWq : Below wr.heap.size wr w9 := ⟨hb9.os, hb9.tape, hb9.output, hb9.size, hb9.block⟩
      have hzq := hWq.size
      have HO9 := lay (HO.out.mono hWq)
      refine hK.out _ _ (fun _ => ?_) (fun hS1 => ?_)
      · exact ⟨kcl hb9 (hS0.1), kcl hb9 (hS0.2.1), kcl hb9 (hS0.2.2.1), kcl hb9 (hS0.2.2.2.1), kcl hb9 (hS0.2.2.2.2.1), kcl hb9 (hS0.2.2.2.2.2.1), kcl hb9 (hS0.2.2.2.2.2.2.1), kcl hb9 (hS0.2.2.2.2.2.2.2.1), kcl hb9 (hS0.2.2.2.2.2.2.2.2.1), kcl hb9 (hS0.2.2.2.2.2.2.2.2.2.1), kcl hb9 (hS0.2.2.2.2.2.2.2.2.2.2.1), kcl hb9 (hS0.2.2.2.2.2.2.2.2.2.2.2)⟩
      clear hK K
      have hS1 := hS1 (by decide)
      try simp only [Act.put, List.setIfInBounds_toArray, List.set_cons_zero, List.set_cons_succ]
      refine wpAnyX_one (i := 9) (o := _) rfl (by kernel_rfl) (fun K hK => ?_)
      go_simp
      refine hK.out _ _ (fun _ => ?_) (fun hS2 => ?_)
      · first | exact ⟨kclAl (hS1.1), kclAl (hS1.2.1), kclAl (hS1.2.2.1), kclAl (hS1.2.2.2.1), kclAl (hS1.2.2.2.2.1), kclAl (hS1.2.2.2.2.2.1), kclAl (hS1.2.2.2.2.2.2.1), kclAl (hS1.2.2.2.2.2.2.2.1), kclAl (hS1.2.2.2.2.2.2.2.2.1), kclAl (hS1.2.2.2.2.2.2.2.2.2.1), kclAl (hS1.2.2.2.2.2.2.2.2.2.2.1), kclAl (hS1.2.2.2.2.2.2.2.2.2.2.2)⟩ | exact ⟨kclAld (hS1.1), kclAld (hS1.2.1), kclAld (hS1.2.2.1), kclAld (hS1.2.2.2.1), kclAld (hS1.2.2.2.2.1), kclAld (hS1.2.2.2.2.2.1), kclAld (hS1.2.2.2.2.2.2.1), kclAld (hS1.2.2.2.2.2.2.2.1), kclAld (hS1.2.2.2.2.2.2.2.2.1), kclAld (hS1.2.2.2.2.2.2.2.2.2.1), kclAld (hS1.2.2.2.2.2.2.2.2.2.2.1), kclAld (hS1.2.2.2.2.2.2.2.2.2.2.2)⟩
      clear hK K
      have hS2 := hS2 (by decide)
      try simp only [Act.put, List.setIfInBounds_toArray, List.set_cons_zero, List.set_cons_succ]
      refine wpAnyX_one (i := 10) (o := _) rfl (by kernel_rfl) (fun K hK => ?_)
      refine step_app1 (E := pauliE) rfl _ _ _ (by rfl) (w.heap.size + 1 + 1 + 1 + 1) 43 i0 _ 24 Try.underlying51 hi0 iz0 iz1 iz2 rfl _ _ j (tab_len _ _) (by rfl) (HO9.out.alloc _).1 w9.heap.size 1 (pv Pa Xa1 Za1) #[.int .i64 (Pa : Int), .int .i64 (Xa1 : Int), .int .i64 (Za1 : Int)] rfl (by rfl) (heap_alloc_new _ _) hmax hby (by simp only [World.size_alloc]; omega) ?_
      intro A10 cp10 w10 hO10 hG10 hat10
      have YO := ((Xo.out.mono hWq).alloc (.cells #[.int .i64 (Pa : Int), .int .i64 (Xa1 : Int), .int .i64 (Za1 : Int)] 43)).grown hG10 neo
      refine hK.out _ _ (fun _ => ?_) (fun hS3 => ?_)
      · exact ⟨hG10.cell (hS2.1) ne0, hG10.cell (hS2.2.1) ne0, hG10.cell (hS2.2.2.1) ne0, hG10.cell (hS2.2.2.2.1) ne1, hG10.cell (hS2.2.2.2.2.1) ne1, hG10.cell (hS2.2.2.2.2.2.1) ne1, hG10.cell (hS2.2.2.2.2.2.2.1) neo, hG10.cell (hS2.2.2.2.2.2.2.2.1) neo, hG10.cell (hS2.2.2.2.2.2.2.2.2.1) neo, hG10.cell (hS2.2.2.2.2.2.2.2.2.2.1) neg, hG10.cell (hS2.2.2.2.2.2.2.2.2.2.2.1) neg, hG10.cell (hS2.2.2.2.2.2.2.2.2.2.2.2) neg⟩
      clear hK K
      have hS3 := hS3 (by decide)
      try simp only [Act.put, List.setIfInBounds_toArray, List.set_cons_zero, List.set_cons_succ]
      refine wpAnyX_take (i := 11) (oi := _) (v := ?_) rfl (by kernel_rfl) (by kernel_rfl) (by kernel_rfl) (by kernel_rfl) (fun _ _ _ h => h) (Or.inl ⟨by rfl, ?_⟩) hS3 ?_
      rotate_left 1
      · (intro w hSw; (try dsimp only at hSw); go_simp; (try with_reducible rfl))
      change wpAnyX _ _ _ _ _ _ _ _ (Act.put _ (some 27) _) _
      try simp only [Act.put, List.setIfInBounds_toArray, List.set_cons_zero, List.set_cons_succ]
      refine wpAnyX_one (i := 12) (o := _) rfl (by kernel_rfl) (fun K hK => ?_)
      have yo0 := YO.c 0 rfl
      have yo1 := YO.c 1 rfl
      have yo2 := YO.c 2 rfl
      have yof := YO.f
      go_simp
      refine hK.out _ _ (fun h => absurd rfl h) (fun _ => ?_)
      clear hK K
      try simp only [Act.put, List.setIfInBounds_toArray, List.set_cons_zero, List.set_cons_succ]
      refine wpAnyX_done (by kernel_rfl) ?_ _
      have hzg := hG10.size
      simp only [World.size_alloc] at hzg
      have hBg : Below w.heap.size w w10 := Below.grown ((chn hBr hWq hBr.size).alloc (Nat.le_trans hBr.size hzq) _) hG10 (by simp only [World.size_alloc]; have := hBr.size; omega) (fun r hr => by have := (HO9.out.1.lt r hr).1; omega)
      go_wp2_with (fail)
      obtain ⟨w5, hw⟩ : ∃ W, W = w10.setCell ⟨w.heap.size + 1 + 1 + 1, 1, none⟩ (.slice A10 (j + 1) cp10) := ⟨_, rfl⟩
      have Ya : Hid (Bb w5 (w.heap.size) 53 #[.int .i64 (n : Int), .slice (some ⟨gX, oX, none⟩) n c1, .slice (some ⟨gZ, oZ, none⟩) n c2]) := by show Bb _ _ _ _; rw [hw]; exact (((Xa.out.mono hWq).alloc _).grown hG10 ne0).far (by omega)
      have Yb : Hid (Bb w5 (w.heap.size + 1) 53 #[.int .i64 (n : Int), .slice B1 n d1, .slice B2 n d2]) := by show Bb _ _ _ _; rw [hw]; exact (((Xb.out.mono hWq).alloc _).grown hG10 ne1).far (by omega)
      have Yz : Hid (Bb w5 (w.heap.size + 1 + 1) 53 #[.int .i64 0, .slice none 0 0, .slice none 0 0]) := by show Bb _ _ _ _; rw [hw]; exact (((Xz.out.mono hWq).alloc _).grown hG10 nez).far (by omega)
      have Yo : Hid (Bb w5 (w.heap.size + 1 + 1 + 1) 53 #[.int .i64 (n : Int), .slice A10 (j + 1) cp10, .slice Z1 j k2]) := by show Bb _ _ _ _; rw [hw]; exact YO.set rfl
      have Y1 : Hid (Ow2 w5 (w.heap.size + 1 + 1 + 1 + 1) (.slice A10 (j + 1) cp10) (.slice Z1 j k2) (tab (j + 1) (thF n us vs xs)) (tab j (thF n us vs zs))) := by
        show Ow2 _ _ _ _ _ _
        have h9 := Ow2.appX (HO9.out.alloc _) hO10 hG10 hat10
        rw [V1.out, ← tab_succ] at h9
        rw [hw]; exact h9.far (by show w.heap.size + 1 + 1 + 1 < _; omega) _
      have hB5 : Below w.heap.size w w5 := by rw [hw]; exact Below.setCell hBg (by show w.heap.size ≤ w.heap.size + 1 + 1 + 1; omega) _
      have hsz5 : (w.heap.size + 1 + 1 + 1 + 1) ≤ w5.heap.size := by rw [hw, World.size_setCell]; omega
      rw [← hw]
      clear hw
      clear Xa Xb Xz Xo HO HO9 hWq hzq YO hO10 hG10 hat10 hzg hBg RC RD ne0 ne1 nez neo neg e0 e1 e2 hS0 hS1 hS2 yo0 yo1 yo2 yof
      clear ca0 ca1 ca2 cb0 cb1 cb2 cz0 cz1 cz2 co0 co1 co2 la lb lz lo fz
      have Xa := Ya
      have Xb := Yb
      have Xz := Yz
      have Xo := Yo
      have HO := Y1
      clear Ya Yb Yz Yo Y1
      have ca0 := Xa.out.c 0 rfl
      have ca1 := Xa.out.c 1 rfl
      have ca2 := Xa.out.c 2 rfl
      have cb0 := Xb.out.c 0 rfl
      have cb1 := Xb.out.c 1 rfl
      have cb2 := Xb.out.c 2 rfl
      have cz0 := Xz.out.c 0 rfl
      have cz1 := Xz.out.c 1 rfl
      have cz2 := Xz.out.c 2 rfl
      have co0 := Xo.out.c 0 rfl
      have co1 := Xo.out.c 1 rfl
      have co2 := Xo.out.c 2 rfl
      have la := Xa.out.lt
      have lb := Xb.out.lt
      have lz := Xz.out.lt
      have lo := Xo.out.lt
      have fz := Xz.out.f
      have e0 : w5.cell? ⟨gZ, oZ + j * 3, none⟩ = some (.int .i64 (pZ : Int)) := (World.cell?_of_block (hB5.block gZ hgZ)).trans HCZ.out.1
      have e1 : w5.cell? ⟨gZ, oZ + j * 3 + 1, none⟩ = some (.int .i64 (aZ : Int)) := (World.cell?_of_block (hB5.block gZ hgZ)).trans HCZ.out.2.1
      have e2 : w5.cell? ⟨gZ, oZ + j * 3 + 2, none⟩ = some (.int .i64 (bZ : Int)) := (World.cell?_of_block (hB5.block gZ hgZ)).trans HCZ.out.2.2
      have ne0 : some w.heap.size ≠ (Value.slice Z1 j k2).ownBlock := HO.out.neZ (by omega)
      have ne1 : some (w.heap.size + 1) ≠ (Value.slice Z1 j k2).ownBlock := HO.out.neZ (by omega)
      have nez : some (w.heap.size + 1 + 1) ≠ (Value.slice Z1 j k2).ownBlock := HO.out.neZ (by omega)
      have neo : some (w.heap.size + 1 + 1 + 1) ≠ (Value.slice Z1 j k2).ownBlock := HO.out.neZ (by omega)
      have neg : some gZ ≠ (Value.slice Z1 j k2).ownBlock := HO.out.neZ (by omega)
      have RC := lay (HC.out.mono hB5)
      have RD := lay (HD.out.mono hB5)
      have yca0 : w5.drew.cell? ⟨w.heap.size, 0, none⟩ = some (.int .i64 (n : Int)) := ca0
      have yca1 : w5.drew.cell? ⟨w.heap.size, 1, none⟩ = some (.slice (some ⟨gX, oX, none⟩) n c1) := ca1
      have yca2 : w5.drew.cell? ⟨w.heap.size, 2, none⟩ = some (.slice (some ⟨gZ, oZ, none⟩) n c2) := ca2
      have ycb0 : w5.drew.cell? ⟨w.heap.size + 1, 0, none⟩ = some (.int .i64 (n : Int)) := cb0
      have ycb1 : w5.drew.cell? ⟨w.heap.size + 1, 1, none⟩ = some (.slice B1 n d1) := cb1
      have ycb2 : w5.drew.cell? ⟨w.heap.size + 1, 2, none⟩ = some (.slice B2 n d2) := cb2
      have yco0 : w5.drew.cell? ⟨w.heap.size + 1 + 1 + 1, 0, none⟩ = some (.int .i64 (n : Int)) := co0
      have yco1 : w5.drew.cell? ⟨w.heap.size + 1 + 1 + 1, 1, none⟩ = some (.slice A10 (j + 1) cp10) := co1
      have yco2 : w5.drew.cell? ⟨w.heap.size + 1 + 1 + 1, 2, none⟩ = some (.slice Z1 j k2) := co2
      have ye0 : w5.drew.cell? ⟨gZ, oZ + j * 3, none⟩ = some (.int .i64 (pZ : Int)) := e0
      have ye1 : w5.drew.cell? ⟨gZ, oZ + j * 3 + 1, none⟩ = some (.int .i64 (aZ : Int)) := e1
      have ye2 : w5.drew.cell? ⟨gZ, oZ + j * 3 + 2, none⟩ = some (.int .i64 (bZ : Int)) := e2
      refine wp_region_x (fun w' => w'.cell? ⟨w.heap.size, 0, none⟩ = some (.int .i64 (n : Int)) ∧ w'.cell? ⟨w.heap.size, 1, none⟩ = some (.slice (some ⟨gX, oX, none⟩) n c1) ∧ w'.cell? ⟨w.heap.size, 2, none⟩ = some (.slice (some ⟨gZ, oZ, none⟩) n c2) ∧ w'.cell? ⟨w.heap.size + 1, 0, none⟩ = some (.int .i64 (n : Int)) ∧ w'.cell? ⟨w.heap.size + 1, 1, none⟩ = some (.slice B1 n d1) ∧ w'.cell? ⟨w.heap.size + 1, 2, none⟩ = some (.slice B2 n d2) ∧ w'.cell? ⟨w.heap.size + 1 + 1 + 1, 0, none⟩ = some (.int .i64 (n : Int)) ∧ w'.cell? ⟨w.heap.size + 1 + 1 + 1, 1, none⟩ = some (.slice A10 (j + 1) cp10) ∧ w'.cell? ⟨w.heap.size + 1 + 1 + 1, 2, none⟩ = some (.slice Z1 j k2) ∧ w'.cell? ⟨gZ, oZ + j * 3, none⟩ = some (.int .i64 (pZ : Int)) ∧ w'.cell? ⟨gZ, oZ + j * 3 + 1, none⟩ = some (.int .i64 (aZ : Int)) ∧ w'.cell? ⟨gZ, oZ + j * 3 + 2, none⟩ = some (.int .i64 (bZ : Int))) 12 (by kernel_rfl) ⟨yca0, yca1, yca2, ycb0, ycb1, ycb2, yco0, yco1, yco2, ye0, ye1, ye2⟩ (fun hS0 => ?_)
      refine wpAnyX_take (i := 0) (oi := _) (v := ?_) rfl (by kernel_rfl) (by kernel_rfl) (by kernel_rfl) (by kernel_rfl) (fun _ _ _ h => h) (Or.inl ⟨by rfl, ?_⟩) hS0 ?_
      rotate_left 1
      · (intro w hSw; (try dsimp only at hSw); go_simp; (try with_reducible rfl))
      try simp only [Act.put, List.setIfInBounds_toArray, List.set_cons_zero, List.set_cons_succ]
      refine wpAnyX_take (i := 1) (oi := _) (v := ?_) rfl (by kernel_rfl) (by kernel_rfl) (by kernel_rfl) (by kernel_rfl) (fun _ _ _ h => h) (Or.inl ⟨by rfl, ?_⟩) hS0 ?_
      rotate_left 1
      · (intro w hSw; (try dsimp only at hSw); go_simp; (try with_reducible rfl))
      try simp only [Act.put, List.setIfInBounds_toArray, List.set_cons_zero, List.set_cons_succ]
      refine wpAnyX_take (i := 2) (oi := _) (v := ?_) rfl (by kernel_rfl) (by kernel_rfl) (by kernel_rfl) (by kernel_rfl) (fun _ _ _ h => h) (Or.inl ⟨by rfl, ?_⟩) hS0 ?_
      rotate_left 1
      · (intro w hSw; (try dsimp only at hSw); go_simp; (try with_reducible rfl))
      try simp only [Act.put, List.setIfInBounds_toArray, List.set_cons_zero, List.set_cons_succ]
      refine wpAnyX_take (i := 3) (oi := _) (v := ?_) rfl (by kernel_rfl) (by kernel_rfl) (by kernel_rfl) (by kernel_rfl) (fun _ _ _ h => h) (Or.inl ⟨by rfl, ?_⟩) hS0 ?_
      rotate_left 1
      · (intro w hSw; (try dsimp only at hSw); go_simp; (try with_reducible rfl))
      try simp only [Act.put, List.setIfInBounds_toArray, List.set_cons_zero, List.set_cons_succ]
      refine wpAnyX_take (i := 4) (oi := _) (v := ?_) rfl (by kernel_rfl) (by kernel_rfl) (by kernel_rfl) (by kernel_rfl) (fun _ _ _ h => h) (Or.inl ⟨by rfl, ?_⟩) hS0 ?_
      rotate_left 1
      · (intro w hSw; (try dsimp only at hSw); go_simp; (try with_reducible rfl))
      try simp only [Act.put, List.setIfInBounds_toArray, List.set_cons_zero, List.set_cons_succ]
      refine wpAnyX_take (i := 5) (oi := _) (v := ?_) rfl (by kernel_rfl) (by kernel_rfl) (by kernel_rfl) (by kernel_rfl) (fun _ _ _ h => h) (Or.inl ⟨by rfl, ?_⟩) hS0 ?_
      rotate_left 1
      · (intro w hSw; (try dsimp only at hSw); go_simp; (try with_reducible rfl))
      try simp only [Act.put, List.setIfInBounds_toArray, List.set_cons_zero, List.set_cons_succ]
      refine wpAnyX_take (i := 6) (oi := _) (v := ?_) rfl (by kernel_rfl) (by kernel_rfl) (by kernel_rfl) (by kernel_rfl) (fun _ _ _ h => h) (Or.inl ⟨by rfl, ?_⟩) hS0 ?_
      rotate_left 1
      · (intro w hSw; (try dsimp only at hSw); go_simp; (try with_reducible rfl))
      try simp only [Act.put, List.setIfInBounds_toArray, List.set_cons_zero, List.set_cons_succ]
      refine wpAnyX_take (i := 7) (oi := _) (v := ?_) rfl (by kernel_rfl) (by kernel_rfl) (by kernel_rfl) (by kernel_rfl) (fun _ _ _ h => h) (Or.inl ⟨by rfl, ?_⟩) hS0 ?_
      rotate_left 1
      · (intro w hSw; (try dsimp only at hSw); go_simp; (try with_reducible rfl))
      try simp only [Act.put, List.setIfInBounds_toArray, List.set_cons_zero, List.set_cons_succ]
      refine wpAnyX_one (i := 8) (o := _) rfl (by kernel_rfl) (fun K hK => ?_)
      go_simp
      refine (simg (xs := us) (zs := vs) q5 pZ3 aZ2 bZ2 ?_ ?_ OU.out OV.out hrZ.out).mono ?_
      · exact RC.out
      · exact RD.out
      rintro ee w9 ⟨rfl, -, hb9⟩
      have hWq : Below w5.heap.size w5 w9 := ⟨hb9.os, hb9.tape, hb9.output, hb9.size, hb9.block⟩
      have hzq := hWq.size
      have HO9 := lay (HO.out.mono hWq)
      refine hK.out _ _ (fun _ => ?_) (fun hS1 => ?_)
      · exact ⟨kcl hb9 (hS0.1), kcl hb9 (hS0.2.1), kcl hb9 (hS0.2.2.1), kcl hb9 (hS0.2.2.2.1), kcl hb9 (hS0.2.2.2.2.1), kcl hb9 (hS0.2.2.2.2.2.1), kcl hb9 (hS0.2.2.2.2.2.2.1), kcl hb9 (hS0.2.2.2.2.2.2.2.1), kcl hb9 (hS0.2.2.2.2.2.2.2.2.1), kcl hb9 (hS0.2.2.2.2.2.2.2.2.2.1), kcl hb9 (hS0.2.2.2.2.2.2.2.2.2.2.1), kcl hb9 (hS0.2.2.2.2.2.2.2.2.2.2.2)⟩
      clear hK K
      have hS1 := hS1 (by decide)
      try simp only [Act.put, List.setIfInBounds_toArray, List.set_cons_zero, List.set_cons_succ]
      refine wpAnyX_one (i := 9) (o := _) rfl (by kernel_rfl) (fun K hK => ?_)
      go_simp
      refine hK.out _ _ (fun _ => ?_) (fun hS2 => ?_)
      · first | exact ⟨kclAl (hS1.1), kclAl (hS1.2.1), kclAl (hS1.2.2.1), kclAl (hS1.2.2.2.1), kclAl (hS1.2.2.2.2.1), kclAl (hS1.2.2.2.2.2.1), kclAl (hS1.2.2.2.2.2.2.1), kclAl (hS1.2.2.2.2.2.2.2.1), kclAl (hS1.2.2.2.2.2.2.2.2.1), kclAl (hS1.2.2.2.2.2.2.2.2.2.1), kclAl (hS1.2.2.2.2.2.2.2.2.2.2.1), kclAl (hS1.2.2.2.2.2.2.2.2.2.2.2)⟩ | exact ⟨kclAld (hS1.1), kclAld (hS1.2.1), kclAld (hS1.2.2.1), kclAld (hS1.2.2.2.1), kclAld (hS1.2.2.2.2.1), kclAld (hS1.2.2.2.2.2.1), kclAld (hS1.2.2.2.2.2.2.1), kclAld (hS1.2.2.2.2.2.2.2.1), kclAld (hS1.2.2.2.2.2.2.2.2.1), kclAld (hS1.2.2.2.2.2.2.2.2.2.1), kclAld (hS1.2.2.2.2.2.2.2.2.2.2.1), kclAld (hS1.2.2.2.2.2.2.2.2.2.2.2)⟩
      clear hK K
      have hS2 := hS2 (by decide)
      try simp only [Act.put, List.setIfInBounds_toArray, List.set_cons_zero, List.set_cons_succ]
      refine wpAnyX_one (i := 10) (o := _) rfl (by kernel_rfl) (fun K hK => ?_)
      refine step_app1 (E := pauliE) rfl _ _ _ (by rfl) (w.heap.size + 1 + 1 + 1 + 1) 43 i0 _ 24 Try.underlying51 hi0 iz0 iz1 iz2 rfl _ _ j (tab_len _ _) (by rfl) (HO9.out.alloc _).2.1 w9.heap.size 1 (pv Pb Xb1 Zb1) #[.int .i64 (Pb : Int), .int .i64 (Xb1 : Int), .int .i64 (Zb1 : Int)] rfl (by rfl) (heap_alloc_new _ _) hmax hby (by simp only [World.size_alloc]; omega) ?_
      intro A11 cp11 w11 hO11 hG11 hat11
      have YO := ((Xo.out.mono hWq).alloc (.cells #[.int .i64 (Pb : Int), .int .i64 (Xb1 : Int), .int .i64 (Zb1 : Int)] 43)).grown hG11 neo
      refine hK.out _ _ (fun _ => ?_) (fun hS3 => ?_)
      · exact ⟨hG11.cell (hS2.1) ne0, hG11.cell (hS2.2.1) ne0, hG11.cell (hS2.2.2.1) ne0, hG11.cell (hS2.2.2.2.1) ne1, hG11.cell (hS2.2.2.2.2.1) ne1, hG11.cell (hS2.2.2.2.2.2.1) ne1, hG11.cell (hS2.2.2.2.2.2.2.1) neo, hG11.cell (hS2.2.2.2.2.2.2.2.1) neo, hG11.cell (hS2.2.2.2.2.2.2.2.2.1) neo, hG11.cell (hS2.2.2.2.2.2.2.2.2.2.1) neg, hG11.cell (hS2.2.2.2.2.2.2.2.2.2.2.1) neg, hG11.cell (hS2.2.2.2.2.2.2.2.2.2.2.2) neg⟩
      clear hK K
      have hS3 := hS3 (by decide)
      try simp only [Act.put, List.setIfInBounds_toArray, List.set_cons_zero, List.set_cons_succ]
      refine wpAnyX_take (i := 11) (oi := _) (v := ?_) rfl (by kernel_rfl) (by kernel_rfl) (by kernel_rfl) (by kernel_rfl) (fun _ _ _ h => h) (Or.inl ⟨by rfl, ?_⟩) hS3 ?_
      rotate_left 1
      · (intro w hSw; (try dsimp only at hSw); go_simp; (try with_reducible rfl))
      change wpAnyX _ _ _ _ _ _ _ _ (Act.put _ (some 39) _) _
      try simp only [Act.put, List.setIfInBounds_toArray, List.set_cons_zero, List.set_cons_succ]
      refine wpAnyX_one (i := 12) (o := _) rfl (by kernel_rfl) (fun K hK => ?_)
      have yo0 := YO.c 0 rfl
      have yo1 := YO.c 1 rfl
      have yo2 := YO.c 2 rfl
      have yof := YO.f
      go_simp
      refine hK.out _ _ (fun h => absurd rfl h) (fun _ => ?_)
      clear hK K
      try simp only [Act.put, List.setIfInBounds_toArray, List.set_cons_zero, List.set_cons_succ]
      refine wpAnyX_done (by kernel_rfl) ?_ _
      have hzg := hG11.size
      simp only [World.size_alloc] at hzg
      have hBg : Below w.heap.size w w11 := Below.grown ((chn hB5 hWq hB5.size).alloc (Nat.le_trans hB5.size hzq) _) hG11 (by simp only [World.size_alloc]; have := hB5.size; omega) (fun r hr => by have := (HO9.out.2.1.lt r hr).1; omega)
      go_wp2_with (fail)
      obtain ⟨w6, hw⟩ : ∃ W, W = w11.setCell ⟨w.heap.size + 1 + 1 + 1, 2, none⟩ (.slice A11 (j + 1) cp11) := ⟨_, rfl⟩
      have Ya : Hid (Bb w6 (w.heap.size) 53 #[.int .i64 (n : Int), .slice (some ⟨gX, oX, none⟩) n c1, .slice (some ⟨gZ, oZ, none⟩) n c2]) := by show Bb _ _ _ _; rw [hw]; exact (((Xa.out.mono hWq).alloc _).grown hG11 ne0).far (by omega)
      have Yb : Hid (Bb w6 (w.heap.size + 1) 53 #[.int .i64 (n : Int), .slice B1 n d1, .slice B2 n d2]) := by show Bb _ _ _ _; rw [hw]; exact (((Xb.out.mono hWq).alloc _).grown hG11 ne1).far (by omega)
      have Yz : Hid (Bb w6 (w.heap.size + 1 + 1) 53 #[.int .i64 0, .slice none 0 0, .slice none 0 0]) := by show Bb _ _ _ _; rw [hw]; exact (((Xz.out.mono hWq).alloc _).grown hG11 nez).far (by omega)
      have Yo : Hid (Bb w6 (w.heap.size + 1 + 1 + 1) 53 #[.int .i64 (n : Int), .slice A10 (j + 1) cp10, .slice A11 (j + 1) cp11]) := by show Bb _ _ _ _; rw [hw]; exact YO.set rfl
      have Y1 : Hid (Ow2 w6 (w.heap.size + 1 + 1 + 1 + 1) (.slice A10 (j + 1) cp10) (.slice A11 (j + 1) cp11) (tab (j + 1) (thF n us vs xs)) (tab (j + 1) (thF n us vs zs))) := by
        show Ow2 _ _ _ _ _ _
        have h9 := Ow2.appZ (HO9.out.alloc _) hO11 hG11 hat11
        rw [V2.out, ← tab_succ] at h9
        rw [hw]; exact h9.far (by show w.heap.size + 1 + 1 + 1 < _; omega) _
      have hB6 : Below w.heap.size w w6 := by rw [hw]; exact Below.setCell hBg (by show w.heap.size ≤ w.heap.size + 1 + 1 + 1; omega) _
      have hsz6 : (w.heap.size + 1 + 1 + 1 + 1) ≤ w6.heap.size := by rw [hw, World.size_setCell]; omega
      subst hw
      go_roundg m
      case measure => omega
      case rel => exact ⟨j + 1, A10, cp10, A11, cp11, by omega, by go_num, Ya, Yb, Yz, Yo, Y1, hsz6, hB6⟩

end Go.Proofs.Ytjedpeoafpljhaa.C4
