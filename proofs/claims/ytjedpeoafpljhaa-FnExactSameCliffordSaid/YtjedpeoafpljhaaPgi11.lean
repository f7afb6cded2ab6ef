/- The tableau of a swap: the program. -/
import Derived.Test.YtjedpeoafpljhaaPgd
import Derived.Test.YtjedpeoafpljhaaPap
namespace Go.Proofs.Ytjedpeoafpljhaa.C4
open Go.RowKit
set_option linter.unusedVariables false
set_option linter.unusedSimpArgs false
attribute [local irreducible] World.setCell

set_option maxRecDepth 100000 in
set_option maxHeartbeats 4000000 in
theorem gti_11 {n a b : Nat} (q1 : 1 ≤ n) (q5 : n ≤ 5) (ha : a < n) (hb : b < n) (hab : a ≠ b) (w : World) :
    Calls Try.prog 90 #[.int .i64 (n : Int), .agg #[.int .i64 11, .int .i64 (a : Int), .int .i64 (b : Int)]] w fun ee w' => ∃ gx gz : Nat, ee = .returned (tableauV n (some ⟨gx, 0, none⟩) n n (some ⟨gz, 0, none⟩) n n) ∧ Bk pauliE w' gx 43 (tab n (gtX 11 a b)) ∧ Bk pauliE w' gz 43 (tab n (gtZ 11 a b)) ∧ w.heap.size ≤ gx ∧ w.heap.size ≤ gz ∧ gx ≠ gz ∧ Below w.heap.size w w' := by
  have al : (a : Int) < (n : Int) := by omega
  have bl : (b : Int) < (n : Int) := by omega
  go_enter Try.func90, Try.ntmps90
  go_wp2_with (fail)
  refine (idt q1 q5 _).mono ?_
  rintro ee w1 ⟨gx, gz, rfl, hK1, hK2, hg1, hg2, hne, hb1⟩
  have hz1 := hb1.size
  (try simp only [World.size_alloc] at hz1 hg1 hg2)
  have Xg : Bb w1 w.heap.size 116 #[.int .i64 11, .int .i64 (a : Int), .int .i64 (b : Int)] := by (repeat' (first | (with_reducible assumption) | (refine Bb.new (by first | (with_reducible rfl) | (simp; done))) | (with_reducible refine Bb.alloc ?_ _) | (with_reducible refine Bb.drew ?_) | (with_reducible refine Bb.drewN ?_ _) | (with_reducible refine Bb.mono ?_ (by assumption)) | (with_reducible refine Bb.far ?_ (by (try simp only [World.size_alloc, World.size_drew]); omega)) | (with_reducible refine Bb.set ?_ rfl) | (with_reducible refine Bb.grown ?_ (by assumption) (by assumption))))
  have k0 := Xg.c 0 rfl
  have k1 := Xg.c 1 rfl
  have k2 := Xg.c 2 rfl
  have lk := Xg.lt
  have Xt : Bb w1 (w.heap.size + 1) 53 #[.int .i64 0, .slice none 0 0, .slice none 0 0] := by (repeat' (first | (with_reducible assumption) | (refine Bb.new (by first | (with_reducible rfl) | (simp; done))) | (with_reducible refine Bb.alloc ?_ _) | (with_reducible refine Bb.drew ?_) | (with_reducible refine Bb.drewN ?_ _) | (with_reducible refine Bb.mono ?_ (by assumption)) | (with_reducible refine Bb.far ?_ (by (try simp only [World.size_alloc, World.size_drew]); omega)) | (with_reducible refine Bb.set ?_ rfl) | (with_reducible refine Bb.grown ?_ (by assumption) (by assumption))))
  have t0 := Xt.c 0 rfl
  have t1 := Xt.c 1 rfl
  have t2 := Xt.c 2 rfl
  have lt := Xt.lt
  have tf := Xt.f
  have hB1 : Below w.heap.size w w1 := by (repeat' (first | (with_reducible exact Below.refl _ _) | (with_reducible assumption) | (with_reducible refine Below.alloc ?_ ?_ _) | (with_reducible refine Below.drew ?_) | (with_reducible refine bdN ?_ _) | (with_reducible refine Below.setCell ?_ ?_ _) | (with_reducible refine chn ?_ (by assumption) ?_) | omega | (simp; done) | (simp; omega)))
  have fx := hK1.fr
  have fz := hK2.fr
  obtain ⟨x0, x1, x2⟩ := Bk.atPauli (k := a) (x := genX a) hK1 (tab_get ha)
  obtain ⟨z0, z1, z2⟩ := Bk.atPauli (k := a) (x := genZ a) hK2 (tab_get ha)
  obtain ⟨p0, p1, p2⟩ := Bk.atPauli (k := b) (x := genX b) hK1 (tab_get hb)
  obtain ⟨r0, r1, r2⟩ := Bk.atPauli (k := b) (x := genZ b) hK2 (tab_get hb)
  have lx := hK1.lt
  have lz := hK2.lt
  have HK1 := lay hK1
  have HK2 := lay hK2
  clear hb1 hK1 hK2
  have e1 := pw_w (show a ≤ 5 by omega)
  have e2 := pw_k (show a ≤ 5 by omega)
  have e3 := pw_w (show b ≤ 5 by omega)
  have e4 := pw_k (show b ≤ 5 by omega)
  have a1 : IntKind.i64.wrap ((a : Int)) = (a : Int) := IntWalk.i64_in _ (by omega)
  have a2 : IntKind.i64.wrap ((b : Int)) = (b : Int) := IntWalk.i64_in _ (by omega)
  go_wp2_with (fail)
  go_region
  go_wp2_with (fail)
  go_region
  go_wp2_with (fail)
  obtain ⟨W2, hW⟩ : ∃ W : World, W = (((((((w1.setCell ⟨gx, a * 3, none⟩ (.int .i64 (genX b).f0)).setCell ⟨gx, a * 3 + 1, none⟩ (.int .i64 (genX b).f1)).setCell ⟨gx, a * 3 + 2, none⟩ (.int .i64 (genX b).f2)).setCell ⟨gx, b * 3, none⟩ (.int .i64 (genX a).f0)).setCell ⟨gx, b * 3 + 1, none⟩ (.int .i64 (genX a).f1)).setCell ⟨gx, b * 3 + 2, none⟩ (.int .i64 (genX a).f2)).alloc (.cells #[.int .i64 (n : Int), .slice (some ⟨gx, 0, none⟩) n n, .slice (some ⟨gz, 0, none⟩) n n] 53)).drew.drew := ⟨_, rfl⟩
  have hz2 : w1.heap.size + 1 ≤ W2.heap.size := by rw [hW]; simp
  have lz2 : gz < W2.heap.size := by omega
  have hB2 : Below w.heap.size w W2 := by rw [hW]; (repeat' (first | (with_reducible exact Below.refl _ _) | (with_reducible assumption) | (with_reducible refine Below.alloc ?_ ?_ _) | (with_reducible refine Below.drew ?_) | (with_reducible refine bdN ?_ _) | (with_reducible refine Below.setCell ?_ ?_ _) | (with_reducible refine chn ?_ (by assumption) ?_) | omega | (simp; done) | (simp; omega)))
  have HX2 : Hid (Bk pauliE W2 gx 43 (((tab n genX).set a (genX b)).set b (genX a))) := by
    show Bk _ _ _ _ _
    rw [hW]; refine Bk.drew (Bk.drew (Bk.alloc ?_ _)); refine Bk.stPauli (xs := ((tab n genX).set a (genX b))) (k := b) ?_ (genX a) (by rw [List.length_set, tab_len]; exact hb); refine Bk.stPauli (xs := tab n genX) (k := a) ?_ (genX b) (by rw [tab_len]; exact ha); exact HK1.out
  have HZ2 : Hid (Bk pauliE W2 gz 43 (tab n genZ)) := by
    show Bk _ _ _ _ _
    rw [hW]; refine Bk.drew (Bk.drew (Bk.alloc ?_ _)); refine Bk.far ?_ (by show gz ≠ gx; omega) _; refine Bk.far ?_ (by show gz ≠ gx; omega) _; refine Bk.far ?_ (by show gz ≠ gx; omega) _; refine Bk.far ?_ (by show gz ≠ gx; omega) _; refine Bk.far ?_ (by show gz ≠ gx; omega) _; refine Bk.far ?_ (by show gz ≠ gx; omega) _; exact HK2.out
  have Yg : Bb W2 w.heap.size 116 #[.int .i64 11, .int .i64 (a : Int), .int .i64 (b : Int)] := by
    rw [hW]; refine Bb.drew (Bb.drew (Bb.alloc ?_ _)); refine Bb.far ?_ (by show w.heap.size ≠ gx; omega); refine Bb.far ?_ (by show w.heap.size ≠ gx; omega); refine Bb.far ?_ (by show w.heap.size ≠ gx; omega); refine Bb.far ?_ (by show w.heap.size ≠ gx; omega); refine Bb.far ?_ (by show w.heap.size ≠ gx; omega); refine Bb.far ?_ (by show w.heap.size ≠ gx; omega); exact Xg
  have Yt : Bb W2 (w.heap.size + 1) 53 #[.int .i64 0, .slice none 0 0, .slice none 0 0] := by
    rw [hW]; refine Bb.drew (Bb.drew (Bb.alloc ?_ _)); refine Bb.far ?_ (by show w.heap.size + 1 ≠ gx; omega); refine Bb.far ?_ (by show w.heap.size + 1 ≠ gx; omega); refine Bb.far ?_ (by show w.heap.size + 1 ≠ gx; omega); refine Bb.far ?_ (by show w.heap.size + 1 ≠ gx; omega); refine Bb.far ?_ (by show w.heap.size + 1 ≠ gx; omega); refine Bb.far ?_ (by show w.heap.size + 1 ≠ gx; omega); exact Xt
  have Y5 : Bb W2 w1.heap.size 53 #[.int .i64 (n : Int), .slice (some ⟨gx, 0, none⟩) n n, .slice (some ⟨gz, 0, none⟩) n n] := by
    rw [hW]; refine Bb.drew (Bb.drew ?_); exact Bb.new (by simp)
  rw [← hW]
  clear hW Xg Xt k0 k1 k2 lk t0 t1 t2 lt tf fx fz x0 x1 x2 z0 z1 z2 p0 p1 p2 r0 r1 r2 HK1 HK2 hB1
  have k0 := Yg.c 0 rfl
  have k1 := Yg.c 1 rfl
  have k2 := Yg.c 2 rfl
  have lk := Yg.lt
  have t0 := Yt.c 0 rfl
  have t1 := Yt.c 1 rfl
  have t2 := Yt.c 2 rfl
  have lt := Yt.lt
  have tf := Yt.f
  have s0 := Y5.c 0 rfl
  have s1 := Y5.c 1 rfl
  have s2 := Y5.c 2 rfl
  have ls := Y5.lt
  have fz := HZ2.out.fr
  obtain ⟨z0, z1, z2⟩ := Bk.atPauli (k := a) (x := genZ a) HZ2.out (tab_get ha)
  obtain ⟨r0, r1, r2⟩ := Bk.atPauli (k := b) (x := genZ b) HZ2.out (tab_get hb)
  have yk1 : W2.drew.cell? ⟨w.heap.size, 1, none⟩ = some (.int .i64 (a : Int)) := k1
  have yk2 : W2.drew.cell? ⟨w.heap.size, 2, none⟩ = some (.int .i64 (b : Int)) := k2
  refine wp_region_x (fun w' => w'.cell? ⟨w.heap.size, 1, none⟩ = some (.int .i64 (a : Int)) ∧ w'.cell? ⟨w.heap.size, 2, none⟩ = some (.int .i64 (b : Int))) 1000 (by kernel_rfl) ⟨yk1, yk2⟩ (fun hS0 => ?_)
  refine wpAnyX_take (i := 0) (oi := _) (v := ?_) rfl (by kernel_rfl) (by kernel_rfl) (by kernel_rfl) (by kernel_rfl) (fun _ _ _ h => h) (Or.inl ⟨by rfl, ?_⟩) hS0 ?_
  rotate_left 1
  · (intro w hSw; (try dsimp only at hSw); go_simp; (try with_reducible rfl))
  try simp only [Act.put, List.setIfInBounds_toArray, List.set_cons_zero, List.set_cons_succ]
  refine wpAnyX_take (i := 1) (oi := _) (v := ?_) rfl (by kernel_rfl) (by kernel_rfl) (by kernel_rfl) (by kernel_rfl) (fun _ _ _ h => h) (Or.inl ⟨by rfl, ?_⟩) hS0 ?_
  rotate_left 1
  · (intro w hSw; (try dsimp only at hSw); go_simp; (try with_reducible rfl))
  try simp only [Act.put, List.setIfInBounds_toArray, List.set_cons_zero, List.set_cons_succ]
  refine wpAnyX_take (i := 2) (oi := _) (v := ?_) rfl (by kernel_rfl) (by kernel_rfl) (by kernel_rfl) (by kernel_rfl) (fun _ _ _ h => h) (Or.inl ⟨by rfl, ?_⟩) hS0 ?_
  rotate_left 1
  · (intro w hSw; (try dsimp only at hSw); go_simp; (try with_reducible rfl))
  try simp only [Act.put, List.setIfInBounds_toArray, List.set_cons_zero, List.set_cons_succ]
  refine wpAnyX_take (i := 3) (oi := _) (v := ?_) rfl (by kernel_rfl) (by kernel_rfl) (by kernel_rfl) (by kernel_rfl) (fun _ _ _ h => h) (Or.inl ⟨by rfl, ?_⟩) hS0 ?_
  rotate_left 1
  · (intro w hSw; (try dsimp only at hSw); go_simp; (try with_reducible rfl))
  try simp only [Act.put, List.setIfInBounds_toArray, List.set_cons_zero, List.set_cons_succ]
  refine wpAnyX_take (i := 4) (oi := _) (v := ?_) rfl (by kernel_rfl) (by kernel_rfl) (by kernel_rfl) (by kernel_rfl) (fun _ _ _ h => h) (Or.inl ⟨by rfl, ?_⟩) hS0 ?_
  rotate_left 1
  · (intro w hSw; (try dsimp only at hSw); go_simp; (try with_reducible rfl))
  try simp only [Act.put, List.setIfInBounds_toArray, List.set_cons_zero, List.set_cons_succ]
  refine wpAnyX_take (i := 5) (oi := _) (v := ?_) rfl (by kernel_rfl) (by kernel_rfl) (by kernel_rfl) (by kernel_rfl) (fun _ _ _ h => h) (Or.inl ⟨by rfl, ?_⟩) hS0 ?_
  rotate_left 1
  · (intro w hSw; (try dsimp only at hSw); go_simp; (try with_reducible rfl))
  try simp only [Act.put, List.setIfInBounds_toArray, List.set_cons_zero, List.set_cons_succ]
  refine wpAnyX_take (i := 6) (oi := _) (v := ?_) rfl (by kernel_rfl) (by kernel_rfl) (by kernel_rfl) (by kernel_rfl) (fun _ _ _ h => h) (Or.inl ⟨by rfl, ?_⟩) hS0 ?_
  rotate_left 1
  · (intro w hSw; (try dsimp only at hSw); go_simp; (try with_reducible rfl))
  try simp only [Act.put, List.setIfInBounds_toArray, List.set_cons_zero, List.set_cons_succ]
  refine wpAnyX_take (i := 7) (oi := _) (v := ?_) rfl (by kernel_rfl) (by kernel_rfl) (by kernel_rfl) (by kernel_rfl) (fun _ _ _ h => h) (Or.inl ⟨by rfl, ?_⟩) hS0 ?_
  rotate_left 1
  · (intro w hSw; (try dsimp only at hSw); go_simp; (try with_reducible rfl))
  try simp only [Act.put, List.setIfInBounds_toArray, List.set_cons_zero, List.set_cons_succ]
  refine wpAnyX_take (i := 8) (oi := _) (v := ?_) rfl (by kernel_rfl) (by kernel_rfl) (by kernel_rfl) (by kernel_rfl) (fun _ _ _ h => h) (Or.inl ⟨by rfl, ?_⟩) hS0 ?_
  rotate_left 1
  · (intro w hSw; (try dsimp only at hSw); go_simp; (try with_reducible rfl))
  try simp only [Act.put, List.setIfInBounds_toArray, List.set_cons_zero, List.set_cons_succ]
  refine wpAnyX_take (i := 9) (oi := _) (v := ?_) rfl (by kernel_rfl) (by kernel_rfl) (by kernel_rfl) (by kernel_rfl) (fun _ _ _ h => h) (Or.inl ⟨by rfl, ?_⟩) hS0 ?_
  rotate_left 1
  · (intro w hSw; (try dsimp only at hSw); go_simp; (try with_reducible rfl))
  try simp only [Act.put, List.setIfInBounds_toArray, List.set_cons_zero, List.set_cons_succ]
  refine wpAnyX_take (i := 11) (oi := _) (v := ?_) rfl (by kernel_rfl) (by kernel_rfl) (by kernel_rfl) (by kernel_rfl) (fun _ _ _ h => h) (Or.inl ⟨by rfl, ?_⟩) hS0 ?_
  rotate_left 1
  · (intro w hSw; (try dsimp only at hSw); go_simp; (try with_reducible rfl))
  try simp only [Act.put, List.setIfInBounds_toArray, List.set_cons_zero, List.set_cons_succ]
  refine wpAnyX_take (i := 12) (oi := _) (v := ?_) rfl (by kernel_rfl) (by kernel_rfl) (by kernel_rfl) (by kernel_rfl) (fun _ _ _ h => h) (Or.inl ⟨by rfl, ?_⟩) hS0 ?_
  rotate_left 1
  · (intro w hSw; (try dsimp only at hSw); go_simp; (try with_reducible rfl))
  try simp only [Act.put, List.setIfInBounds_toArray, List.set_cons_zero, List.set_cons_succ]
  refine wpAnyX_take (i := 13) (oi := _) (v := ?_) rfl (by kernel_rfl) (by kernel_rfl) (by kernel_rfl) (by kernel_rfl) (fun _ _ _ h => h) (Or.inl ⟨by rfl, ?_⟩) hS0 ?_
  rotate_left 1
  · (intro w hSw; (try dsimp only at hSw); go_simp; (try with_reducible rfl))
  try simp only [Act.put, List.setIfInBounds_toArray, List.set_cons_zero, List.set_cons_succ]
  refine wpAnyX_take (i := 14) (oi := _) (v := ?_) rfl (by kernel_rfl) (by kernel_rfl) (by kernel_rfl) (by kernel_rfl) (fun _ _ _ h => h) (Or.inl ⟨by rfl, ?_⟩) hS0 ?_
  rotate_left 1
  · (intro w hSw; (try dsimp only at hSw); go_simp; (try with_reducible rfl))
  try simp only [Act.put, List.setIfInBounds_toArray, List.set_cons_zero, List.set_cons_succ]
  refine wpAnyX_two (i := 10) (j := 15) (oi := _) (oj := _) rfl rfl (by kernel_rfl) (fun K hK => ?_) (fun K hK => ?_)
  · go_simp
    refine hK.out _ _ (fun _ => ?_) (fun hS1 => ?_)
    · exact hS0
    clear hK K
    have hS1 := hS1 (by decide)
    try simp only [Act.put, List.setIfInBounds_toArray, List.set_cons_zero, List.set_cons_succ]
    refine wpAnyX_one (i := 15) (o := _) rfl (by kernel_rfl) (fun K hK => ?_)
    go_simp
    refine hK.out _ _ (fun _ => ?_) (fun hS2 => ?_)
    · exact hS1
    clear hK K
    have hS2 := hS2 (by decide)
    try simp only [Act.put, List.setIfInBounds_toArray, List.set_cons_zero, List.set_cons_succ]
    refine wpAnyX_take (i := 16) (oi := _) (v := ?_) rfl (by kernel_rfl) (by kernel_rfl) (by kernel_rfl) (by kernel_rfl) (fun _ _ _ h => h) (Or.inl ⟨by rfl, ?_⟩) hS2 ?_
    rotate_left 1
    · (intro w hSw; (try dsimp only at hSw); go_simp; (try with_reducible rfl))
    try simp only [Act.put, List.setIfInBounds_toArray, List.set_cons_zero, List.set_cons_succ]
    refine wpAnyX_one (i := 17) (o := _) rfl (by kernel_rfl) (fun K hK => ?_)
    go_simp
    refine hK.out _ _ (fun _ => ?_) (fun hS3 => ?_)
    · exact ⟨kclS3 (by omega) (hS2.1), kclS3 (by omega) (hS2.2)⟩
    clear hK K
    have hS3 := hS3 (by decide)
    try simp only [Act.put, List.setIfInBounds_toArray, List.set_cons_zero, List.set_cons_succ]
    refine wpAnyX_take (i := 18) (oi := _) (v := ?_) rfl (by kernel_rfl) (by kernel_rfl) (by kernel_rfl) (by kernel_rfl) (fun _ _ _ h => h) (Or.inl ⟨by rfl, ?_⟩) hS3 ?_
    rotate_left 1
    · (intro w hSw; (try dsimp only at hSw); go_simp; (try with_reducible rfl))
    try simp only [Act.put, List.setIfInBounds_toArray, List.set_cons_zero, List.set_cons_succ]
    refine wpAnyX_one (i := 19) (o := _) rfl (by kernel_rfl) (fun K hK => ?_)
    go_simp
    refine hK.out _ _ (fun _ => ?_) (fun hS4 => ?_)
    · exact ⟨kclS3 (by omega) (hS3.1), kclS3 (by omega) (hS3.2)⟩
    clear hK K
    have hS4 := hS4 (by decide)
    try simp only [Act.put, List.setIfInBounds_toArray, List.set_cons_zero, List.set_cons_succ]
    refine wpAnyX_done (by kernel_rfl) ?_ _
    go_upto_region 25 with (fail)
    (repeat (first | go_values | go_skip | go_guarded | go_step | go_upon))
    refine bodyPost_ret (v := tableauV n (some ⟨gx, 0, none⟩) n n (some ⟨gz, 0, none⟩) n n) (by first | (simp [results, Try.results90, go_sem, *]; done) | (simp (disch := (first | omega | (simp; done) | (simp; omega))) [results, Try.results90, go_sem, *]; done) | (simp only [results, Try.results90]; go_simp; done)) rfl ⟨gx, gz, rfl, ?_, ?_, by omega, by omega, hne, ?_⟩
    · rw [show tab n (gtX 11 a b) = ((tab n genX).set a (genX b)).set b (genX a) from by rw [tab_set (n := n) (f := genX) (a := a) (v := genX b) (g := fun q => if q = a then genX b else genX q) (by simp) (fun q h1 h2 => by simp [h2]), tab_set (g := gtX 11 a b) (by simp [hab, hab.symm, gtX]) (fun q h1 h2 => by simp [gtX, h2])]]; (repeat (with_reducible refine Bk.drew ?_)); refine Bk.far ?_ (by show gx ≠ w.heap.size + 1; omega) _; refine Bk.far ?_ (by show gx ≠ w.heap.size + 1; omega) _; refine Bk.far ?_ (by show gx ≠ w.heap.size + 1; omega) _; refine Bk.far ?_ (by show gx ≠ gz; omega) _; refine Bk.far ?_ (by show gx ≠ gz; omega) _; refine Bk.far ?_ (by show gx ≠ gz; omega) _; refine Bk.far ?_ (by show gx ≠ gz; omega) _; refine Bk.far ?_ (by show gx ≠ gz; omega) _; refine Bk.far ?_ (by show gx ≠ gz; omega) _; exact HX2.out
    · rw [show tab n (gtZ 11 a b) = ((tab n genZ).set a (genZ b)).set b (genZ a) from by rw [tab_set (n := n) (f := genZ) (a := a) (v := genZ b) (g := fun q => if q = a then genZ b else genZ q) (by simp) (fun q h1 h2 => by simp [h2]), tab_set (g := gtZ 11 a b) (by simp [hab, hab.symm, gtZ]) (fun q h1 h2 => by simp [gtZ, h2])]]; (repeat (with_reducible refine Bk.drew ?_)); refine Bk.far ?_ (by show gz ≠ w.heap.size + 1; omega) _; refine Bk.far ?_ (by show gz ≠ w.heap.size + 1; omega) _; refine Bk.far ?_ (by show gz ≠ w.heap.size + 1; omega) _; refine Bk.stPauli (xs := ((tab n genZ).set a (genZ b))) (k := b) ?_ (genZ a) (by rw [List.length_set, tab_len]; exact hb); refine Bk.stPauli (xs := tab n genZ) (k := a) ?_ (genZ b) (by rw [tab_len]; exact ha); exact HZ2.out
    · (repeat' (first | (with_reducible exact Below.refl _ _) | (with_reducible assumption) | (with_reducible refine Below.alloc ?_ ?_ _) | (with_reducible refine Below.drew ?_) | (with_reducible refine bdN ?_ _) | (with_reducible refine Below.setCell ?_ ?_ _) | (with_reducible refine chn ?_ (by assumption) ?_) | omega | (simp; done) | (simp; omega)))
  · go_simp
    refine hK.out _ _ (fun _ => ?_) (fun hS1 => ?_)
    · exact hS0
    clear hK K
    have hS1 := hS1 (by decide)
    try simp only [Act.put, List.setIfInBounds_toArray, List.set_cons_zero, List.set_cons_succ]
    refine wpAnyX_one (i := 10) (o := _) rfl (by kernel_rfl) (fun K hK => ?_)
    go_simp
    refine hK.out _ _ (fun _ => ?_) (fun hS2 => ?_)
    · exact hS1
    clear hK K
    have hS2 := hS2 (by decide)
    try simp only [Act.put, List.setIfInBounds_toArray, List.set_cons_zero, List.set_cons_succ]
    refine wpAnyX_take (i := 16) (oi := _) (v := ?_) rfl (by kernel_rfl) (by kernel_rfl) (by kernel_rfl) (by kernel_rfl) (fun _ _ _ h => h) (Or.inl ⟨by rfl, ?_⟩) hS2 ?_
    rotate_left 1
    · (intro w hSw; (try dsimp only at hSw); go_simp; (try with_reducible rfl))
    try simp only [Act.put, List.setIfInBounds_toArray, List.set_cons_zero, List.set_cons_succ]
    refine wpAnyX_one (i := 17) (o := _) rfl (by kernel_rfl) (fun K hK => ?_)
    go_simp
    refine hK.out _ _ (fun _ => ?_) (fun hS3 => ?_)
    · exact ⟨kclS3 (by omega) (hS2.1), kclS3 (by omega) (hS2.2)⟩
    clear hK K
    have hS3 := hS3 (by decide)
    try simp only [Act.put, List.setIfInBounds_toArray, List.set_cons_zero, List.set_cons_succ]
    refine wpAnyX_take (i := 18) (oi := _) (v := ?_) rfl (by kernel_rfl) (by kernel_rfl) (by kernel_rfl) (by kernel_rfl) (fun _ _ _ h => h) (Or.inl ⟨by rfl, ?_⟩) hS3 ?_
    rotate_left 1
    · (intro w hSw; (try dsimp only at hSw); go_simp; (try with_reducible rfl))
    try simp only [Act.put, List.setIfInBounds_toArray, List.set_cons_zero, List.set_cons_succ]
    refine wpAnyX_one (i := 19) (o := _) rfl (by kernel_rfl) (fun K hK => ?_)
    go_simp
    refine hK.out _ _ (fun _ => ?_) (fun hS4 => ?_)
    · exact ⟨kclS3 (by omega) (hS3.1), kclS3 (by omega) (hS3.2)⟩
    clear hK K
    have hS4 := hS4 (by decide)
    try simp only [Act.put, List.setIfInBounds_toArray, List.set_cons_zero, List.set_cons_succ]
    refine wpAnyX_done (by kernel_rfl) ?_ _
    go_upto_region 25 with (fail)
    (repeat (first | go_values | go_skip | go_guarded | go_step | go_upon))
    refine bodyPost_ret (v := tableauV n (some ⟨gx, 0, none⟩) n n (some ⟨gz, 0, none⟩) n n) (by first | (simp [results, Try.results90, go_sem, *]; done) | (simp (disch := (first | omega | (simp; done) | (simp; omega))) [results, Try.results90, go_sem, *]; done) | (simp only [results, Try.results90]; go_simp; done)) rfl ⟨gx, gz, rfl, ?_, ?_, by omega, by omega, hne, ?_⟩
    · rw [show tab n (gtX 11 a b) = ((tab n genX).set a (genX b)).set b (genX a) from by rw [tab_set (n := n) (f := genX) (a := a) (v := genX b) (g := fun q => if q = a then genX b else genX q) (by simp) (fun q h1 h2 => by simp [h2]), tab_set (g := gtX 11 a b) (by simp [hab, hab.symm, gtX]) (fun q h1 h2 => by simp [gtX, h2])]]; (repeat (with_reducible refine Bk.drew ?_)); refine Bk.far ?_ (by show gx ≠ w.heap.size + 1; omega) _; refine Bk.far ?_ (by show gx ≠ w.heap.size + 1; omega) _; refine Bk.far ?_ (by show gx ≠ w.heap.size + 1; omega) _; refine Bk.far ?_ (by show gx ≠ gz; omega) _; refine Bk.far ?_ (by show gx ≠ gz; omega) _; refine Bk.far ?_ (by show gx ≠ gz; omega) _; refine Bk.far ?_ (by show gx ≠ gz; omega) _; refine Bk.far ?_ (by show gx ≠ gz; omega) _; refine Bk.far ?_ (by show gx ≠ gz; omega) _; exact HX2.out
    · rw [show tab n (gtZ 11 a b) = ((tab n genZ).set a (genZ b)).set b (genZ a) from by rw [tab_set (n := n) (f := genZ) (a := a) (v := genZ b) (g := fun q => if q = a then genZ b else genZ q) (by simp) (fun q h1 h2 => by simp [h2]), tab_set (g := gtZ 11 a b) (by simp [hab, hab.symm, gtZ]) (fun q h1 h2 => by simp [gtZ, h2])]]; (repeat (with_reducible refine Bk.drew ?_)); refine Bk.far ?_ (by show gz ≠ w.heap.size + 1; omega) _; refine Bk.far ?_ (by show gz ≠ w.heap.size + 1; omega) _; refine Bk.far ?_ (by show gz ≠ w.heap.size + 1; omega) _; refine Bk.stPauli (xs := ((tab n genZ).set a (genZ b))) (k := b) ?_ (genZ a) (by rw [List.length_set, tab_len]; exact hb); refine Bk.stPauli (xs := tab n genZ) (k := a) ?_ (genZ b) (by rw [tab_len]; exact ha); exact HZ2.out
    · (repeat' (first | (with_reducible exact Below.refl _ _) | (with_reducible assumption) | (with_reducible refine Below.alloc ?_ ?_ _) | (with_reducible refine Below.drew ?_) | (with_reducible refine bdN ?_ _) | (with_reducible refine Below.setCell ?_ ?_ _) | (with_reducible refine chn ?_ (by assumption) ?_) | omega | (simp; done) | (simp; omega)))

end Go.Proofs.Ytjedpeoafpljhaa.C4
