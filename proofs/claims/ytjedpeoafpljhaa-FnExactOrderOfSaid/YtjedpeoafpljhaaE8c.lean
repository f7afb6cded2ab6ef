/- SignOnly: the model. -/
import Derived.Test.YtjedpeoafpljhaaE8b
import Derived.Test.YtjedpeoafpljhaaPgt
import Derived.Test.YtjedpeoafpljhaaPd7
namespace Go.Proofs.Ytjedpeoafpljhaa.C4
open Go.RowKit
set_option linter.unusedVariables false
set_option linter.unusedSimpArgs false
attribute [local irreducible] World.setCell

theorem so_f1 {a b c : Nat} (h : ¬ (a = c ∧ b = 0)) : ((0 : Int) == 0 && ((a : Int) == (c : Int) && ((b : Int) == 0))) = false := by
  by_cases h1 : a = c
  · have h2 : b ≠ 0 := fun e => h ⟨h1, e⟩
    have h3 : ((b : Int) == 0) = false := by
      cases hb : ((b : Int) == 0)
      · rfl
      · exact absurd (Int.ofNat.inj (eq_of_beq hb)) h2
    rw [h3]; simp
  · have h3 : ((a : Int) == (c : Int)) = false := by
      cases hb : ((a : Int) == (c : Int))
      · rfl
      · exact absurd (Int.ofNat.inj (eq_of_beq hb)) h1
    rw [h3]; simp
theorem so_f2 {a b c : Nat} (h : ¬ (a = 0 ∧ b = c)) : ((0 : Int) == 0 && ((a : Int) == 0 && ((b : Int) == (c : Int)))) = false := by
  have := so_f1 (a := b) (b := a) (c := c) (fun k => h ⟨k.2, k.1⟩)
  rw [← this]
  cases ((b : Int) == (c : Int)) <;> cases ((a : Int) == 0) <;> rfl
set_option maxRecDepth 100000 in
set_option maxHeartbeats 8000000 in
theorem l8so {n g h c1 c2 : Nat} {xs zs : List PauliV} {t : Bool} {w : World} (q1 : 1 ≤ n) (q5 : n ≤ 5) (oX : okL n xs) (oZ : okL n zs) (hs : t = true ↔ soU xs zs n) (hA : Rd pauliE w (some ⟨g, 0, none⟩) xs) (hB : Rd pauliE w (some ⟨h, 0, none⟩) zs) :
    Calls Try.prog 104 #[tableauV (n : Int) (some ⟨g, 0, none⟩) n c1 (some ⟨h, 0, none⟩) n c2] w fun ee w' => ee = .returned (.bool t) ∧ Below w.heap.size w w' := by
  have OX := lay oX
  have OZ := lay oZ
  have HA := lay hA
  have HB := lay hB
  have HT := lay hs
  clear oX oZ hA hB hs
  go_enter Try.func104, Try.ntmps104
  go_wp2_with (fail)
  refine (l7id q1 q5 _).mono ?_
  rintro ee w1 ⟨vx, vz, rfl, hO, hb1⟩
  obtain ⟨gx, cx, gz, cz, rfl, rfl, hK1, hK2, hg1, hg2, hne⟩ := Ow2.split q1 hO
  have hz1 := hb1.size
  (try simp only [World.size_alloc] at hz1 hg1 hg2)
  have Xt : Hid (Bb w1 (w.heap.size) 53 #[.int .i64 (n : Int), .slice (some ⟨g, 0, none⟩) n c1, .slice (some ⟨h, 0, none⟩) n c2]) := by show Bb _ _ _ _; (repeat' (first | (with_reducible assumption) | (refine Bb.new (by first | (with_reducible rfl) | (simp; done))) | (with_reducible refine Bb.alloc ?_ _) | (with_reducible refine Bb.drew ?_) | (with_reducible refine Bb.drewN ?_ _) | (with_reducible refine Bb.mono ?_ (by assumption)) | (with_reducible refine Bb.far ?_ (by (try simp only [World.size_alloc, World.size_drew]); omega)) | (with_reducible refine Bb.set ?_ rfl) | (with_reducible refine Bb.grown ?_ (by assumption) (by assumption))))
  have hB1 : Below w.heap.size w w1 := by (repeat' (first | (with_reducible exact Below.refl _ _) | (with_reducible assumption) | (with_reducible refine Below.alloc ?_ ?_ _) | (with_reducible refine Below.drew ?_) | (with_reducible refine bdN ?_ _) | (with_reducible refine Below.setCell ?_ ?_ _) | (with_reducible refine chn ?_ (by assumption) ?_) | omega | (simp; done) | (simp; omega)))
  have lx := hK1.lt
  have lz := hK2.lt
  have K1 := lay hK1
  have K2 := lay hK2
  clear hb1 hO hK1 hK2
  have ct0 := Xt.out.c 0 rfl
  have ct1 := Xt.out.c 1 rfl
  have ct2 := Xt.out.c 2 rfl
  have lt := Xt.out.lt
  go_wp2_with (fail)
  go_loopg [4] n (fun k s4 wr => ∃ j : Nat, j + k = n ∧ s4 = .int .i64 (j : Int) ∧ Hid (soU xs zs j) ∧ Hid (Bb wr (w.heap.size) 53 #[.int .i64 (n : Int), .slice (some ⟨g, 0, none⟩) n c1, .slice (some ⟨h, 0, none⟩) n c2]) ∧ Hid (Bb wr (w1.heap.size) 53 #[.int .i64 (n : Int), .slice (some ⟨gx, 0, none⟩) n cx, .slice (some ⟨gz, 0, none⟩) n cz]) ∧ Hid (Bs pauliE wr gx 43 (tab n genX)) ∧ Hid (Bs pauliE wr gz 43 (tab n genZ)) ∧ Below w.heap.size w wr)
  case atStart =>
    refine ⟨0, by omega, rfl, soU_0 _ _, ?_, ?_, ?_, ?_, ?_⟩
    · show Bb _ _ _ _; have R := Xt.out; (repeat' (first | (with_reducible assumption) | (refine Bb.new (by first | (with_reducible rfl) | (simp; done))) | (with_reducible refine Bb.alloc ?_ _) | (with_reducible refine Bb.drew ?_) | (with_reducible refine Bb.drewN ?_ _) | (with_reducible refine Bb.mono ?_ (by assumption)) | (with_reducible refine Bb.far ?_ (by (try simp only [World.size_alloc, World.size_drew]); omega)) | (with_reducible refine Bb.set ?_ rfl) | (with_reducible refine Bb.grown ?_ (by assumption) (by assumption))))
    · show Bb _ _ _ _; (repeat' (first | (with_reducible assumption) | (refine Bb.new (by first | (with_reducible rfl) | (simp; done))) | (with_reducible refine Bb.alloc ?_ _) | (with_reducible refine Bb.drew ?_) | (with_reducible refine Bb.drewN ?_ _) | (with_reducible refine Bb.mono ?_ (by assumption)) | (with_reducible refine Bb.far ?_ (by (try simp only [World.size_alloc, World.size_drew]); omega)) | (with_reducible refine Bb.set ?_ rfl) | (with_reducible refine Bb.grown ?_ (by assumption) (by assumption))))
    · show Bs _ _ _ _ _; have R := K1.out; (repeat (first | (with_reducible assumption) | (with_reducible refine Bs.drew ?_) | (with_reducible refine Bs.alloc ?_ _) | (refine Bs.far ?_ (by dsimp only; omega) _)))
    · show Bs _ _ _ _ _; have R := K2.out; (repeat (first | (with_reducible assumption) | (with_reducible refine Bs.drew ?_) | (with_reducible refine Bs.alloc ?_ _) | (refine Bs.far ?_ (by dsimp only; omega) _)))
    · (repeat' (first | (with_reducible exact Below.refl _ _) | (with_reducible assumption) | (with_reducible refine Below.alloc ?_ ?_ _) | (with_reducible refine Below.drew ?_) | (with_reducible refine bdN ?_ _) | (with_reducible refine Below.setCell ?_ ?_ _) | (with_reducible refine chn ?_ (by assumption) ?_) | omega | (simp; done) | (simp; omega)))
  case round =>
    obtain ⟨j, hj, rfl, HU, Xr, Er, HX0, HZ0, hB⟩ := hrel
    clear ct0 ct1 ct2 lt Xt K1 K2
    have hBs := hB.size
    have ct0 := Xr.out.c 0 rfl
    have ct1 := Xr.out.c 1 rfl
    have ct2 := Xr.out.c 2 rfl
    have lt := Xr.out.lt
    have ce0 := Er.out.c 0 rfl
    have ce1 := Er.out.c 1 rfl
    have ce2 := Er.out.c 2 rfl
    have le := Er.out.lt
    have lxr := HX0.out.lt
    have lzr := HZ0.out.lt
    cases gk with
    | zero =>
      obtain rfl : n = j := by omega
      have HH : Hid (true = t) := (HT.out.2 HU.out).symm
      go_wp2_with (fail)
      have he := HH.out
      subst he
      go_ret
      exact ⟨rfl, hB⟩
    | succ m =>
      have hlt : j < n := by omega
      have jl : (j : Int) < (n : Int) := by omega
      obtain ⟨pX, aX, bX, hx, pX3, aX2, bX2, nX⟩ := okL_at OX.out hlt
      obtain ⟨pZ, aZ, bZ, hz, pZ3, aZ2, bZ2, nZ⟩ := okL_at OZ.out hlt
      obtain ⟨gX, oX, eX, hgX, hcX⟩ := HA.out.atPauli hx
      obtain ⟨gZ, oZ, eZ, hgZ, hcZ⟩ := HB.out.atPauli hz
      cases eX
      cases eZ
      simp only [Nat.zero_add] at hcX hcZ
      have HX := lay hx
      have HZ := lay hz
      obtain ⟨x0, x1, x2⟩ := hcX
      obtain ⟨z0, z1, z2⟩ := hcZ
      clear hx hz nX nZ
      have j5 : j ≤ 5 := by omega
      have e1 := pw_w j5
      have e2 := pw_k j5
      have a1 : IntKind.i64.wrap ((j : Int)) = (j : Int) := IntWalk.i64_in _ (by omega)
      have hb0 := hB
      have lgg : g < wr.heap.size := Nat.lt_of_lt_of_le hgX hb0.size
      have lgh : h < wr.heap.size := Nat.lt_of_lt_of_le hgZ hb0.size
      have x0' : wr.cell? ⟨g, j * 3, none⟩ = some (.int .i64 (pX : Int)) := (World.cell?_of_block (hb0.block _ hgX)).trans x0
      have x1' : wr.cell? ⟨g, j * 3 + 1, none⟩ = some (.int .i64 (aX : Int)) := (World.cell?_of_block (hb0.block _ hgX)).trans x1
      have x2' : wr.cell? ⟨g, j * 3 + 2, none⟩ = some (.int .i64 (bX : Int)) := (World.cell?_of_block (hb0.block _ hgX)).trans x2
      have z0' : wr.cell? ⟨h, j * 3, none⟩ = some (.int .i64 (pZ : Int)) := (World.cell?_of_block (hb0.block _ hgZ)).trans z0
      have z1' : wr.cell? ⟨h, j * 3 + 1, none⟩ = some (.int .i64 (aZ : Int)) := (World.cell?_of_block (hb0.block _ hgZ)).trans z1
      have z2' : wr.cell? ⟨h, j * 3 + 2, none⟩ = some (.int .i64 (bZ : Int)) := (World.cell?_of_block (hb0.block _ hgZ)).trans z2
      go_wp2_with (fail)
      go_cut [5, 6] (fun s5 s6 wx => ∃ p q : Nat, s5 = .pointer (some ⟨p, 0, none⟩) ∧ s6 = .pointer (some ⟨q, 0, none⟩) ∧ Hid (Bb wx (p) 43 #[.int .i64 (pX : Int), .int .i64 (aX : Int), .int .i64 (bX : Int)]) ∧ Hid (Bb wx (q) 43 #[.int .i64 (pZ : Int), .int .i64 (aZ : Int), .int .i64 (bZ : Int)]) ∧ Hid (Bb wx (w.heap.size) 53 #[.int .i64 (n : Int), .slice (some ⟨g, 0, none⟩) n c1, .slice (some ⟨h, 0, none⟩) n c2]) ∧ Hid (Bb wx (w1.heap.size) 53 #[.int .i64 (n : Int), .slice (some ⟨gx, 0, none⟩) n cx, .slice (some ⟨gz, 0, none⟩) n cz]) ∧ Hid (Bs pauliE wx gx 43 (tab n genX)) ∧ Hid (Bs pauliE wx gz 43 (tab n genZ)) ∧ wr.heap.size ≤ p ∧ wr.heap.size ≤ q ∧ p ≠ q ∧ Below w.heap.size w wx)
      case first =>
        have yct0 : wr.drew.cell? ⟨w.heap.size, 0, none⟩ = some (.int .i64 (n : Int)) := ct0
        have yct1 : wr.drew.cell? ⟨w.heap.size, 1, none⟩ = some (.slice (some ⟨g, 0, none⟩) n c1) := ct1
        have yct2 : wr.drew.cell? ⟨w.heap.size, 2, none⟩ = some (.slice (some ⟨h, 0, none⟩) n c2) := ct2
        have yx0' : wr.drew.cell? ⟨g, j * 3, none⟩ = some (.int .i64 (pX : Int)) := x0'
        have yx1' : wr.drew.cell? ⟨g, j * 3 + 1, none⟩ = some (.int .i64 (aX : Int)) := x1'
        have yx2' : wr.drew.cell? ⟨g, j * 3 + 2, none⟩ = some (.int .i64 (bX : Int)) := x2'
        have yz0' : wr.drew.cell? ⟨h, j * 3, none⟩ = some (.int .i64 (pZ : Int)) := z0'
        have yz1' : wr.drew.cell? ⟨h, j * 3 + 1, none⟩ = some (.int .i64 (aZ : Int)) := z1'
        have yz2' : wr.drew.cell? ⟨h, j * 3 + 2, none⟩ = some (.int .i64 (bZ : Int)) := z2'
        refine wp_region_x (fun w' => w'.cell? ⟨w.heap.size, 0, none⟩ = some (.int .i64 (n : Int)) ∧ w'.cell? ⟨w.heap.size, 1, none⟩ = some (.slice (some ⟨g, 0, none⟩) n c1) ∧ w'.cell? ⟨w.heap.size, 2, none⟩ = some (.slice (some ⟨h, 0, none⟩) n c2) ∧ w'.cell? ⟨g, j * 3, none⟩ = some (.int .i64 (pX : Int)) ∧ w'.cell? ⟨g, j * 3 + 1, none⟩ = some (.int .i64 (aX : Int)) ∧ w'.cell? ⟨g, j * 3 + 2, none⟩ = some (.int .i64 (bX : Int)) ∧ w'.cell? ⟨h, j * 3, none⟩ = some (.int .i64 (pZ : Int)) ∧ w'.cell? ⟨h, j * 3 + 1, none⟩ = some (.int .i64 (aZ : Int)) ∧ w'.cell? ⟨h, j * 3 + 2, none⟩ = some (.int .i64 (bZ : Int))) 1000 (by kernel_rfl) ⟨yct0, yct1, yct2, yx0', yx1', yx2', yz0', yz1', yz2'⟩ (fun hS0 => ?_)
        refine wpAnyX_take (i := 0) (oi := _) (v := ?_) rfl (by kernel_rfl) (by kernel_rfl) (by kernel_rfl) (by kernel_rfl) (fun _ _ _ h => h) (Or.inl ⟨by rfl, ?_⟩) hS0 ?_
        rotate_left 1
        · (intro w hSw; (try dsimp only at hSw); go_simp; (try with_reducible rfl))
        try simp only [Act.put, List.setIfInBounds_toArray, List.set_cons_zero, List.set_cons_succ]
        refine wpAnyX_take (i := 1) (oi := _) (v := ?_) rfl (by kernel_rfl) (by kernel_rfl) (by kernel_rfl) (by kernel_rfl) (fun _ _ _ h => h) (Or.inl ⟨by rfl, ?_⟩) hS0 ?_
        rotate_left 1
        · (intro w hSw; (try dsimp only at hSw); go_simp; (try with_reducible rfl))
        try simp only [Act.put, List.setIfInBounds_toArray, List.set_cons_zero, List.set_cons_succ]
        refine wpAnyX_take (i := 2) (oi := _) (v := ?_) rfl (by kernel_rfl) (by kernel_rfl) (by kernel_rfl) (by kernel_rfl) (fun _ _ _ h => h) (Or.inl ⟨by rfl, ?_⟩) hS0 ?_
        rotate_left 1
        · (intro w hSw; (try dsimp only at hSw); go_simp; (try with_reducible rfl))
        try simp only [Act.put, List.setIfInBounds_toArray, List.set_cons_zero, List.set_cons_succ]
        refine wpAnyX_take (i := 3) (oi := _) (v := ?_) rfl (by kernel_rfl) (by kernel_rfl) (by kernel_rfl) (by kernel_rfl) (fun _ _ _ h => h) (Or.inl ⟨by rfl, ?_⟩) hS0 ?_
        rotate_left 1
        · (intro w hSw; (try dsimp only at hSw); go_simp; (try with_reducible rfl))
        try simp only [Act.put, List.setIfInBounds_toArray, List.set_cons_zero, List.set_cons_succ]
        refine wpAnyX_take (i := 4) (oi := _) (v := ?_) rfl (by kernel_rfl) (by kernel_rfl) (by kernel_rfl) (by kernel_rfl) (fun _ _ _ h => h) (Or.inl ⟨by rfl, ?_⟩) hS0 ?_
        rotate_left 1
        · (intro w hSw; (try dsimp only at hSw); go_simp; (try with_reducible rfl))
        try simp only [Act.put, List.setIfInBounds_toArray, List.set_cons_zero, List.set_cons_succ]
        refine wpAnyX_take (i := 5) (oi := _) (v := ?_) rfl (by kernel_rfl) (by kernel_rfl) (by kernel_rfl) (by kernel_rfl) (fun _ _ _ h => h) (Or.inl ⟨by rfl, ?_⟩) hS0 ?_
        rotate_left 1
        · (intro w hSw; (try dsimp only at hSw); go_simp; (try with_reducible rfl))
        try simp only [Act.put, List.setIfInBounds_toArray, List.set_cons_zero, List.set_cons_succ]
        refine wpAnyX_take (i := 6) (oi := _) (v := ?_) rfl (by kernel_rfl) (by kernel_rfl) (by kernel_rfl) (by kernel_rfl) (fun _ _ _ h => h) (Or.inl ⟨by rfl, ?_⟩) hS0 ?_
        rotate_left 1
        · (intro w hSw; (try dsimp only at hSw); go_simp; (try with_reducible rfl))
        try simp only [Act.put, List.setIfInBounds_toArray, List.set_cons_zero, List.set_cons_succ]
        refine wpAnyX_take (i := 7) (oi := _) (v := ?_) rfl (by kernel_rfl) (by kernel_rfl) (by kernel_rfl) (by kernel_rfl) (fun _ _ _ h => h) (Or.inl ⟨by rfl, ?_⟩) hS0 ?_
        rotate_left 1
        · (intro w hSw; (try dsimp only at hSw); go_simp; (try with_reducible rfl))
        try simp only [Act.put, List.setIfInBounds_toArray, List.set_cons_zero, List.set_cons_succ]
        refine wpAnyX_take (i := 8) (oi := _) (v := ?_) rfl (by kernel_rfl) (by kernel_rfl) (by kernel_rfl) (by kernel_rfl) (fun _ _ _ h => h) (Or.inl ⟨by rfl, ?_⟩) hS0 ?_
        rotate_left 1
        · (intro w hSw; (try dsimp only at hSw); go_simp; (try with_reducible rfl))
        try simp only [Act.put, List.setIfInBounds_toArray, List.set_cons_zero, List.set_cons_succ]
        refine wpAnyX_take (i := 9) (oi := _) (v := ?_) rfl (by kernel_rfl) (by kernel_rfl) (by kernel_rfl) (by kernel_rfl) (fun _ _ _ h => h) (Or.inl ⟨by rfl, ?_⟩) hS0 ?_
        rotate_left 1
        · (intro w hSw; (try dsimp only at hSw); go_simp; (try with_reducible rfl))
        try simp only [Act.put, List.setIfInBounds_toArray, List.set_cons_zero, List.set_cons_succ]
        refine wpAnyX_two (i := 10) (j := 11) (oi := _) (oj := _) rfl rfl (by kernel_rfl) (fun K hK => ?_) (fun K hK => ?_)
        · go_simp
          refine hK.out _ _ (fun _ => ?_) (fun hS1 => ?_)
          · first | exact ⟨kclAl (hS0.1), kclAl (hS0.2.1), kclAl (hS0.2.2.1), kclAl (hS0.2.2.2.1), kclAl (hS0.2.2.2.2.1), kclAl (hS0.2.2.2.2.2.1), kclAl (hS0.2.2.2.2.2.2.1), kclAl (hS0.2.2.2.2.2.2.2.1), kclAl (hS0.2.2.2.2.2.2.2.2)⟩ | exact ⟨kclAld (hS0.1), kclAld (hS0.2.1), kclAld (hS0.2.2.1), kclAld (hS0.2.2.2.1), kclAld (hS0.2.2.2.2.1), kclAld (hS0.2.2.2.2.2.1), kclAld (hS0.2.2.2.2.2.2.1), kclAld (hS0.2.2.2.2.2.2.2.1), kclAld (hS0.2.2.2.2.2.2.2.2)⟩
          clear hK K
          have hS1 := hS1 (by decide)
          try simp only [Act.put, List.setIfInBounds_toArray, List.set_cons_zero, List.set_cons_succ]
          refine wpAnyX_one (i := 11) (o := _) rfl (by kernel_rfl) (fun K hK => ?_)
          go_simp
          refine hK.out _ _ (fun _ => ?_) (fun hS2 => ?_)
          · first | exact ⟨kclAl (hS1.1), kclAl (hS1.2.1), kclAl (hS1.2.2.1), kclAl (hS1.2.2.2.1), kclAl (hS1.2.2.2.2.1), kclAl (hS1.2.2.2.2.2.1), kclAl (hS1.2.2.2.2.2.2.1), kclAl (hS1.2.2.2.2.2.2.2.1), kclAl (hS1.2.2.2.2.2.2.2.2)⟩ | exact ⟨kclAld (hS1.1), kclAld (hS1.2.1), kclAld (hS1.2.2.1), kclAld (hS1.2.2.2.1), kclAld (hS1.2.2.2.2.1), kclAld (hS1.2.2.2.2.2.1), kclAld (hS1.2.2.2.2.2.2.1), kclAld (hS1.2.2.2.2.2.2.2.1), kclAld (hS1.2.2.2.2.2.2.2.2)⟩
          clear hK K
          have hS2 := hS2 (by decide)
          try simp only [Act.put, List.setIfInBounds_toArray, List.set_cons_zero, List.set_cons_succ]
          refine wpAnyX_one (i := 12) (o := _) rfl (by kernel_rfl) (fun K hK => ?_)
          go_simp
          refine hK.out _ _ (fun _ => ?_) (fun hS3 => ?_)
          · exact ⟨kclAld (kclAld yct0), kclAld (kclAld yct1), kclAld (kclAld yct2), kclAld (kclAld yx0'), kclAld (kclAld yx1'), kclAld (kclAld yx2'), kclAld (kclAld yz0'), kclAld (kclAld yz1'), kclAld (kclAld yz2')⟩
          clear hK K
          have hS3 := hS3 (by decide)
          try simp only [Act.put, List.setIfInBounds_toArray, List.set_cons_zero, List.set_cons_succ]
          refine wpAnyX_one (i := 13) (o := _) rfl (by kernel_rfl) (fun K hK => ?_)
          go_simp
          refine hK.out _ _ (fun _ => ?_) (fun hS4 => ?_)
          · exact ⟨kclAld (kclAld yct0), kclAld (kclAld yct1), kclAld (kclAld yct2), kclAld (kclAld yx0'), kclAld (kclAld yx1'), kclAld (kclAld yx2'), kclAld (kclAld yz0'), kclAld (kclAld yz1'), kclAld (kclAld yz2')⟩
          clear hK K
          have hS4 := hS4 (by decide)
          try simp only [Act.put, List.setIfInBounds_toArray, List.set_cons_zero, List.set_cons_succ]
          refine wpAnyX_done (by kernel_rfl) ?_ _
          go_wp2_with (fail)
          go_meet
          have R0 := Xr.out
          have R1 := Er.out
          have RX := HX0.out
          have RZ := HZ0.out
          refine ⟨wr.heap.size, wr.heap.size + 1, rfl, rfl, ?_, ?_, ?_, ?_, ?_, ?_, by omega, by omega, by omega, ?_⟩
          · show Bb _ _ _ _; (repeat' (first | (with_reducible assumption) | (refine Bb.new (by first | (with_reducible rfl) | (simp; done))) | (with_reducible refine Bb.alloc ?_ _) | (with_reducible refine Bb.drew ?_) | (with_reducible refine Bb.drewN ?_ _) | (with_reducible refine Bb.mono ?_ (by assumption)) | (with_reducible refine Bb.far ?_ (by (try simp only [World.size_alloc, World.size_drew]); omega)) | (with_reducible refine Bb.set ?_ rfl) | (with_reducible refine Bb.grown ?_ (by assumption) (by assumption))))
          · show Bb _ _ _ _; (repeat' (first | (with_reducible assumption) | (refine Bb.new (by first | (with_reducible rfl) | (simp; done))) | (with_reducible refine Bb.alloc ?_ _) | (with_reducible refine Bb.drew ?_) | (with_reducible refine Bb.drewN ?_ _) | (with_reducible refine Bb.mono ?_ (by assumption)) | (with_reducible refine Bb.far ?_ (by (try simp only [World.size_alloc, World.size_drew]); omega)) | (with_reducible refine Bb.set ?_ rfl) | (with_reducible refine Bb.grown ?_ (by assumption) (by assumption))))
          · show Bb _ _ _ _; (repeat' (first | (with_reducible assumption) | (refine Bb.new (by first | (with_reducible rfl) | (simp; done))) | (with_reducible refine Bb.alloc ?_ _) | (with_reducible refine Bb.drew ?_) | (with_reducible refine Bb.drewN ?_ _) | (with_reducible refine Bb.mono ?_ (by assumption)) | (with_reducible refine Bb.far ?_ (by (try simp only [World.size_alloc, World.size_drew]); omega)) | (with_reducible refine Bb.set ?_ rfl) | (with_reducible refine Bb.grown ?_ (by assumption) (by assumption))))
          · show Bb _ _ _ _; (repeat' (first | (with_reducible assumption) | (refine Bb.new (by first | (with_reducible rfl) | (simp; done))) | (with_reducible refine Bb.alloc ?_ _) | (with_reducible refine Bb.drew ?_) | (with_reducible refine Bb.drewN ?_ _) | (with_reducible refine Bb.mono ?_ (by assumption)) | (with_reducible refine Bb.far ?_ (by (try simp only [World.size_alloc, World.size_drew]); omega)) | (with_reducible refine Bb.set ?_ rfl) | (with_reducible refine Bb.grown ?_ (by assumption) (by assumption))))
          · show Bs _ _ _ _ _; (repeat (first | (with_reducible assumption) | (with_reducible refine Bs.drew ?_) | (with_reducible refine Bs.alloc ?_ _) | (refine Bs.far ?_ (by dsimp only; omega) _)))
          · show Bs _ _ _ _ _; (repeat (first | (with_reducible assumption) | (with_reducible refine Bs.drew ?_) | (with_reducible refine Bs.alloc ?_ _) | (refine Bs.far ?_ (by dsimp only; omega) _)))
          · (repeat' (first | (with_reducible exact Below.refl _ _) | (with_reducible assumption) | (with_reducible refine Below.alloc ?_ ?_ _) | (with_reducible refine Below.drew ?_) | (with_reducible refine bdN ?_ _) | (with_reducible refine Below.setCell ?_ ?_ _) | (with_reducible refine chn ?_ (by assumption) ?_) | omega | (simp; done) | (simp; omega)))
        · go_simp
          refine hK.out _ _ (fun _ => ?_) (fun hS1 => ?_)
          · first | exact ⟨kclAl (hS0.1), kclAl (hS0.2.1), kclAl (hS0.2.2.1), kclAl (hS0.2.2.2.1), kclAl (hS0.2.2.2.2.1), kclAl (hS0.2.2.2.2.2.1), kclAl (hS0.2.2.2.2.2.2.1), kclAl (hS0.2.2.2.2.2.2.2.1), kclAl (hS0.2.2.2.2.2.2.2.2)⟩ | exact ⟨kclAld (hS0.1), kclAld (hS0.2.1), kclAld (hS0.2.2.1), kclAld (hS0.2.2.2.1), kclAld (hS0.2.2.2.2.1), kclAld (hS0.2.2.2.2.2.1), kclAld (hS0.2.2.2.2.2.2.1), kclAld (hS0.2.2.2.2.2.2.2.1), kclAld (hS0.2.2.2.2.2.2.2.2)⟩
          clear hK K
          have hS1 := hS1 (by decide)
          try simp only [Act.put, List.setIfInBounds_toArray, List.set_cons_zero, List.set_cons_succ]
          refine wpAnyX_one (i := 10) (o := _) rfl (by kernel_rfl) (fun K hK => ?_)
          go_simp
          refine hK.out _ _ (fun _ => ?_) (fun hS2 => ?_)
          · first | exact ⟨kclAl (hS1.1), kclAl (hS1.2.1), kclAl (hS1.2.2.1), kclAl (hS1.2.2.2.1), kclAl (hS1.2.2.2.2.1), kclAl (hS1.2.2.2.2.2.1), kclAl (hS1.2.2.2.2.2.2.1), kclAl (hS1.2.2.2.2.2.2.2.1), kclAl (hS1.2.2.2.2.2.2.2.2)⟩ | exact ⟨kclAld (hS1.1), kclAld (hS1.2.1), kclAld (hS1.2.2.1), kclAld (hS1.2.2.2.1), kclAld (hS1.2.2.2.2.1), kclAld (hS1.2.2.2.2.2.1), kclAld (hS1.2.2.2.2.2.2.1), kclAld (hS1.2.2.2.2.2.2.2.1), kclAld (hS1.2.2.2.2.2.2.2.2)⟩
          clear hK K
          have hS2 := hS2 (by decide)
          try simp only [Act.put, List.setIfInBounds_toArray, List.set_cons_zero, List.set_cons_succ]
          refine wpAnyX_one (i := 12) (o := _) rfl (by kernel_rfl) (fun K hK => ?_)
          go_simp
          refine hK.out _ _ (fun _ => ?_) (fun hS3 => ?_)
          · exact ⟨kclAld (kclAld yct0), kclAld (kclAld yct1), kclAld (kclAld yct2), kclAld (kclAld yx0'), kclAld (kclAld yx1'), kclAld (kclAld yx2'), kclAld (kclAld yz0'), kclAld (kclAld yz1'), kclAld (kclAld yz2')⟩
          clear hK K
          have hS3 := hS3 (by decide)
          try simp only [Act.put, List.setIfInBounds_toArray, List.set_cons_zero, List.set_cons_succ]
          refine wpAnyX_one (i := 13) (o := _) rfl (by kernel_rfl) (fun K hK => ?_)
          go_simp
          refine hK.out _ _ (fun _ => ?_) (fun hS4 => ?_)
          · exact ⟨kclAld (kclAld yct0), kclAld (kclAld yct1), kclAld (kclAld yct2), kclAld (kclAld yx0'), kclAld (kclAld yx1'), kclAld (kclAld yx2'), kclAld (kclAld yz0'), kclAld (kclAld yz1'), kclAld (kclAld yz2')⟩
          clear hK K
          have hS4 := hS4 (by decide)
          try simp only [Act.put, List.setIfInBounds_toArray, List.set_cons_zero, List.set_cons_succ]
          refine wpAnyX_done (by kernel_rfl) ?_ _
          go_wp2_with (fail)
          go_meet
          have R0 := Xr.out
          have R1 := Er.out
          have RX := HX0.out
          have RZ := HZ0.out
          refine ⟨wr.heap.size + 1, wr.heap.size, rfl, rfl, ?_, ?_, ?_, ?_, ?_, ?_, by omega, by omega, by omega, ?_⟩
          · show Bb _ _ _ _; (repeat' (first | (with_reducible assumption) | (refine Bb.new (by first | (with_reducible rfl) | (simp; done))) | (with_reducible refine Bb.alloc ?_ _) | (with_reducible refine Bb.drew ?_) | (with_reducible refine Bb.drewN ?_ _) | (with_reducible refine Bb.mono ?_ (by assumption)) | (with_reducible refine Bb.far ?_ (by (try simp only [World.size_alloc, World.size_drew]); omega)) | (with_reducible refine Bb.set ?_ rfl) | (with_reducible refine Bb.grown ?_ (by assumption) (by assumption))))
          · show Bb _ _ _ _; (repeat' (first | (with_reducible assumption) | (refine Bb.new (by first | (with_reducible rfl) | (simp; done))) | (with_reducible refine Bb.alloc ?_ _) | (with_reducible refine Bb.drew ?_) | (with_reducible refine Bb.drewN ?_ _) | (with_reducible refine Bb.mono ?_ (by assumption)) | (with_reducible refine Bb.far ?_ (by (try simp only [World.size_alloc, World.size_drew]); omega)) | (with_reducible refine Bb.set ?_ rfl) | (with_reducible refine Bb.grown ?_ (by assumption) (by assumption))))
          · show Bb _ _ _ _; (repeat' (first | (with_reducible assumption) | (refine Bb.new (by first | (with_reducible rfl) | (simp; done))) | (with_reducible refine Bb.alloc ?_ _) | (with_reducible refine Bb.drew ?_) | (with_reducible refine Bb.drewN ?_ _) | (with_reducible refine Bb.mono ?_ (by assumption)) | (with_reducible refine Bb.far ?_ (by (try simp only [World.size_alloc, World.size_drew]); omega)) | (with_reducible refine Bb.set ?_ rfl) | (with_reducible refine Bb.grown ?_ (by assumption) (by assumption))))
          · show Bb _ _ _ _; (repeat' (first | (with_reducible assumption) | (refine Bb.new (by first | (with_reducible rfl) | (simp; done))) | (with_reducible refine Bb.alloc ?_ _) | (with_reducible refine Bb.drew ?_) | (with_reducible refine Bb.drewN ?_ _) | (with_reducible refine Bb.mono ?_ (by assumption)) | (with_reducible refine Bb.far ?_ (by (try simp only [World.size_alloc, World.size_drew]); omega)) | (with_reducible refine Bb.set ?_ rfl) | (with_reducible refine Bb.grown ?_ (by assumption) (by assumption))))
          · show Bs _ _ _ _ _; (repeat (first | (with_reducible assumption) | (with_reducible refine Bs.drew ?_) | (with_reducible refine Bs.alloc ?_ _) | (refine Bs.far ?_ (by dsimp only; omega) _)))
          · show Bs _ _ _ _ _; (repeat (first | (with_reducible assumption) | (with_reducible refine Bs.drew ?_) | (with_reducible refine Bs.alloc ?_ _) | (refine Bs.far ?_ (by dsimp only; omega) _)))
          · (repeat' (first | (with_reducible exact Below.refl _ _) | (with_reducible assumption) | (with_reducible refine Below.alloc ?_ ?_ _) | (with_reducible refine Below.drew ?_) | (with_reducible refine bdN ?_ _) | (with_reducible refine Below.setCell ?_ ?_ _) | (with_reducible refine chn ?_ (by assumption) ?_) | omega | (simp; done) | (simp; omega)))
      case rest =>
        obtain ⟨p, q, rfl, rfl, XP, XQ, XT, XE, HXc, HZc, lp, lq, hpq, hBc⟩ := hcut
        have lw1 := le
        clear ct0 ct1 ct2 lt ce0 ce1 ce2 le Xr Er HX0 HZ0
        have hBs2 := hBc.size
        have cp0 := XP.out.c 0 rfl
        have fp := XP.out.f
        have llp := XP.out.lt
        have cq0 := XQ.out.c 0 rfl
        have fq := XQ.out.f
        have llq := XQ.out.lt
        go_upto_region 8 with (fail)
        obtain ⟨W, hW⟩ : ∃ W : World, W = (wc.setCell ⟨p, 0, none⟩ (.int .i64 0)).setCell ⟨q, 0, none⟩ (.int .i64 0) := ⟨_, rfl⟩
        have YP : Hid (Bb W (p) 43 #[.int .i64 0, .int .i64 (aX : Int), .int .i64 (bX : Int)]) := by show Bb _ _ _ _; rw [hW]; exact (XP.out.set rfl).far (by omega)
        have YQ : Hid (Bb W (q) 43 #[.int .i64 0, .int .i64 (aZ : Int), .int .i64 (bZ : Int)]) := by show Bb _ _ _ _; rw [hW]; exact (XQ.out.far (by omega)).set rfl
        have YT : Hid (Bb W (w.heap.size) 53 #[.int .i64 (n : Int), .slice (some ⟨g, 0, none⟩) n c1, .slice (some ⟨h, 0, none⟩) n c2]) := by show Bb _ _ _ _; rw [hW]; exact (XT.out.far (by omega)).far (by omega)
        have YE : Hid (Bb W (w1.heap.size) 53 #[.int .i64 (n : Int), .slice (some ⟨gx, 0, none⟩) n cx, .slice (some ⟨gz, 0, none⟩) n cz]) := by show Bb _ _ _ _; rw [hW]; exact (XE.out.far (by omega)).far (by omega)
        have YX : Hid (Bs pauliE W gx 43 (tab n genX)) := by show Bs _ _ _ _ _; rw [hW]; exact (HXc.out.far (by show gx ≠ p; omega) _).far (by show gx ≠ q; omega) _
        have YZ : Hid (Bs pauliE W gz 43 (tab n genZ)) := by show Bs _ _ _ _ _; rw [hW]; exact (HZc.out.far (by show gz ≠ p; omega) _).far (by show gz ≠ q; omega) _
        have hBW : Below w.heap.size w W := by rw [hW]; exact Below.setCell (Below.setCell hBc (by show w.heap.size ≤ p; omega) _) (by show w.heap.size ≤ q; omega) _
        rw [← hW]
        clear hW XP XQ XT XE HXc HZc hBc hBs2 cp0 fp llp cq0 fq llq
        have hBs2 := hBW.size
        have cp0 := YP.out.c 0 rfl
        have cp1 := YP.out.c 1 rfl
        have cp2 := YP.out.c 2 rfl
        have llp := YP.out.lt
        have cq0 := YQ.out.c 0 rfl
        have cq1 := YQ.out.c 1 rfl
        have cq2 := YQ.out.c 2 rfl
        have llq := YQ.out.lt
        have ce0 := YE.out.c 0 rfl
        have ce1 := YE.out.c 1 rfl
        have ce2 := YE.out.c 2 rfl
        have le := YE.out.lt
        have ct0 := YT.out.c 0 rfl
        have ct1 := YT.out.c 1 rfl
        have ct2 := YT.out.c 2 rfl
        have lt := YT.out.lt
        obtain ⟨u0', u1', u2'⟩ := Bs.atPauli (k := j) (x := genX j) YX.out (tab_get hlt)
        obtain ⟨v0', v1', v2'⟩ := Bs.atPauli (k := j) (x := genZ j) YZ.out (tab_get hlt)
        have u0 : W.cell? ⟨gx, j * 3, none⟩ = some (.int .i64 0) := u0'
        have u1 : W.cell? ⟨gx, j * 3 + 1, none⟩ = some (.int .i64 ((pw j : Nat) : Int)) := u1'
        have u2 : W.cell? ⟨gx, j * 3 + 2, none⟩ = some (.int .i64 0) := u2'
        have v0 : W.cell? ⟨gz, j * 3, none⟩ = some (.int .i64 0) := v0'
        have v1 : W.cell? ⟨gz, j * 3 + 1, none⟩ = some (.int .i64 0) := v1'
        have v2 : W.cell? ⟨gz, j * 3 + 2, none⟩ = some (.int .i64 ((pw j : Nat) : Int)) := v2'
        clear u0' u1' u2' v0' v1' v2'
        by_cases hX : aX = pw j ∧ bX = 0
        · have op1 : ∀ w : World, (binOp .neq 43 (.agg #[.int .i64 0, .int .i64 (aX : Int), .int .i64 (bX : Int)]) (.agg #[.int .i64 0, .int .i64 ((pw j : Nat) : Int), .int .i64 0])).run Try.prog w = .ok (.bool false) w := fun w => run_neqPauli _ _ _ _ _ _ true w (by rw [hX.1, hX.2]; simp)
          by_cases hZ : aZ = 0 ∧ bZ = pw j
          · have op2 : ∀ w : World, (binOp .neq 43 (.agg #[.int .i64 0, .int .i64 (aZ : Int), .int .i64 (bZ : Int)]) (.agg #[.int .i64 0, .int .i64 0, .int .i64 ((pw j : Nat) : Int)])).run Try.prog w = .ok (.bool false) w := fun w => run_neqPauli _ _ _ _ _ _ true w (by rw [hZ.1, hZ.2]; simp)
            have HS : Hid (so1 (pv pX aX bX) (pv pZ aZ bZ) j) := so1_of hX.1 hX.2 hZ.1 hZ.2
            clear hX hZ
            go_quiet (fail)
            go_wp2_with (fail)
            go_roundg m
            case measure => omega
            case rel => exact ⟨j + 1, by omega, by go_num, soU_s HU.out HX.out HZ.out HS.out, YT, YE, YX, YZ, by (repeat' (first | (with_reducible exact Below.refl _ _) | (with_reducible assumption) | (with_reducible refine Below.alloc ?_ ?_ _) | (with_reducible refine Below.drew ?_) | (with_reducible refine bdN ?_ _) | (with_reducible refine Below.setCell ?_ ?_ _) | (with_reducible refine chn ?_ (by assumption) ?_) | omega | (simp; done) | (simp; omega)))⟩
          · have op2 : ∀ w : World, (binOp .neq 43 (.agg #[.int .i64 0, .int .i64 (aZ : Int), .int .i64 (bZ : Int)]) (.agg #[.int .i64 0, .int .i64 0, .int .i64 ((pw j : Nat) : Int)])).run Try.prog w = .ok (.bool true) w := fun w => run_neqPauli _ _ _ _ _ _ false w (so_f2 hZ)
            have HH : Hid (false = t) := tF HT.out (fun h => hZ ⟨(so1_to (h j _ _ hlt HX.out HZ.out)).2.2.1, (so1_to (h j _ _ hlt HX.out HZ.out)).2.2.2⟩)
            clear hX hZ
            go_quiet (fail)
            go_wp2_with (fail)
            have he := HH.out
            subst he
            go_ret
            refine ⟨rfl, ?_⟩
            (repeat' (first | (with_reducible exact Below.refl _ _) | (with_reducible assumption) | (with_reducible refine Below.alloc ?_ ?_ _) | (with_reducible refine Below.drew ?_) | (with_reducible refine bdN ?_ _) | (with_reducible refine Below.setCell ?_ ?_ _) | (with_reducible refine chn ?_ (by assumption) ?_) | omega | (simp; done) | (simp; omega)))
        · have op1 : ∀ w : World, (binOp .neq 43 (.agg #[.int .i64 0, .int .i64 (aX : Int), .int .i64 (bX : Int)]) (.agg #[.int .i64 0, .int .i64 ((pw j : Nat) : Int), .int .i64 0])).run Try.prog w = .ok (.bool true) w := fun w => run_neqPauli _ _ _ _ _ _ false w (so_f1 hX)
          have HH : Hid (false = t) := tF HT.out (fun h => hX ⟨(so1_to (h j _ _ hlt HX.out HZ.out)).1, (so1_to (h j _ _ hlt HX.out HZ.out)).2.1⟩)
          clear hX
          go_quiet (fail)
          go_wp2_with (fail)
          have he := HH.out
          subst he
          go_ret
          refine ⟨rfl, ?_⟩
          (repeat' (first | (with_reducible exact Below.refl _ _) | (with_reducible assumption) | (with_reducible refine Below.alloc ?_ ?_ _) | (with_reducible refine Below.drew ?_) | (with_reducible refine bdN ?_ _) | (with_reducible refine Below.setCell ?_ ?_ _) | (with_reducible refine chn ?_ (by assumption) ?_) | omega | (simp; done) | (simp; omega)))

end Go.Proofs.Ytjedpeoafpljhaa.C4
