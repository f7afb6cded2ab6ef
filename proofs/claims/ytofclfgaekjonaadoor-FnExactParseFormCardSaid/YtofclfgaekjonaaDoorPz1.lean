/- ParseForm: the model, three words. -/
import Derived.Test.YtofclfgaekjonaaDoorPh
namespace Go.Proofs.YtofclfgaekjonaaDoor
open Go.RowKit RM
set_option linter.unusedVariables false
set_option linter.unusedSimpArgs false
attribute [local irreducible] World.setCell

set_option maxRecDepth 100000 in
set_option maxHeartbeats 8000000 in
theorem psf_t {s x y z T : ByteArray} {v1 v2 : Int} {w : World} (hs : s.size ≤ 1048576) (hL : spl s 32 = [x, y, z]) (hR1 : (∀ W : World, Calls Tryd.prog 33 #[.string y] W fun ee w' => ee = .returned (.int .i64 v1) ∧ W = w')) (hR2 : (∀ W : World, Calls Tryd.prog 33 #[.string z] W fun ee w' => ee = .returned (.int .i64 v2) ∧ W = w')) (hV : (∀ W : World, Calls Tryd.prog 18 #[fmv x v1 v2] W fun ee w' => ee = .returned (.bool true) ∧ Below W.heap.size W w')) (hT : (∀ W : World, Calls Tryd.prog 28 #[fmv x v1 v2] W fun ee w' => ee = .returned (.string s) ∧ Below W.heap.size W w')) (hx : ¬ (x = ByteArray.mk #[45])) :
    Calls Tryd.prog 15 #[.string s] w fun ee w' => ee = .returned (.tuple #[fmv x v1 v2, .bool true]) ∧ Below w.heap.size w w' := by
  have hsp := lay0 (fun w => split_s hL hs w)
  clear hL hs
  have hx2 : (x.toList == [45]) = false := nx45 hx
  have HR1 := lay0 hR1
  have HR2 := lay0 hR2
  have HV := lay0 hV
  have HT := lay0 hT
  clear hR1 hR2 hV hT
  go_enter Tryd.func15, Tryd.ntmps15
  go_wp2_with (go_at_call 32; refine (hsp.out _).mono ?_)
  rintro ee w1 ⟨A, cp, rfl, hRd, hb1⟩
  obtain ⟨g, o, rfl, p0, p1, p2⟩ := rd3 hRd
  have X0 : Bx w1 w.heap.size 30 #[.string ByteArray.empty, .int .i64 0, .int .i64 0] := (Bx.new rfl).mono hb1
  have HB1 := ((Below.refl w.heap.size w).alloc (Nat.le_refl _) _).trans (hb1.mono (by simp))
  have hz : w.heap.size < w1.heap.size := X0.lt
  clear hb1 hRd
  go_upto_region 4 with (fail)
  have yp0 : w1.drew.cell? ⟨g, o, none⟩ = some (.string x) := p0
  have yp1 : w1.drew.cell? ⟨g, o + 1, none⟩ = some (.string y) := p1
  have yp2 : w1.drew.cell? ⟨g, o + 2, none⟩ = some (.string z) := p2
  refine wp_region_x (fun w' => w'.cell? ⟨g, o, none⟩ = some (.string x) ∧ w'.cell? ⟨g, o + 1, none⟩ = some (.string y) ∧ w'.cell? ⟨g, o + 2, none⟩ = some (.string z)) 1000 (by kernel_rfl) ⟨yp0, yp1, yp2⟩ (fun hS0 => ?_)
  refine wpAnyX_take (i := 0) (oi := _) (v := ?_) rfl (by kernel_rfl) (by kernel_rfl) (by kernel_rfl) (by kernel_rfl) (fun _ _ _ h => h) (Or.inl ⟨by rfl, ?_⟩) hS0 ?_
  rotate_left 1
  · (intro w hSw; (try dsimp only at hSw); go_simp; (try with_reducible rfl))
  change wpAnyX _ _ _ _ _ _ _ _ (Act.put _ (some 12) _) _
  try simp only [Act.put, List.setIfInBounds_toArray, List.set_cons_zero, List.set_cons_succ]
  refine wpAnyX_take (i := 1) (oi := _) (v := ?_) rfl (by kernel_rfl) (by kernel_rfl) (by kernel_rfl) (by kernel_rfl) (fun _ _ _ h => h) (Or.inl ⟨by rfl, ?_⟩) hS0 ?_
  rotate_left 1
  · (intro w hSw; (try dsimp only at hSw); go_simp; (try with_reducible rfl))
  change wpAnyX _ _ _ _ _ _ _ _ (Act.put _ (some 13) _) _
  try simp only [Act.put, List.setIfInBounds_toArray, List.set_cons_zero, List.set_cons_succ]
  refine wpAnyX_take (i := 2) (oi := _) (v := ?_) rfl (by kernel_rfl) (by kernel_rfl) (by kernel_rfl) (by kernel_rfl) (fun _ _ _ h => h) (Or.inl ⟨by rfl, ?_⟩) hS0 ?_
  rotate_left 1
  · (intro w hSw; (try dsimp only at hSw); go_simp; (try with_reducible rfl))
  change wpAnyX _ _ _ _ _ _ _ _ (Act.put _ (some 14) _) _
  try simp only [Act.put, List.setIfInBounds_toArray, List.set_cons_zero, List.set_cons_succ]
  refine wpAnyX_take (i := 3) (oi := _) (v := ?_) rfl (by kernel_rfl) (by kernel_rfl) (by kernel_rfl) (by kernel_rfl) (fun _ _ _ h => h) (Or.inl ⟨by rfl, ?_⟩) hS0 ?_
  rotate_left 1
  · (intro w hSw; (try dsimp only at hSw); go_simp; (try with_reducible rfl))
  change wpAnyX _ _ _ _ _ _ _ _ (Act.put _ (some 15) _) _
  try simp only [Act.put, List.setIfInBounds_toArray, List.set_cons_zero, List.set_cons_succ]
  refine wpAnyX_take (i := 4) (oi := _) (v := ?_) rfl (by kernel_rfl) (by kernel_rfl) (by kernel_rfl) (by kernel_rfl) (fun _ _ _ h => h) (Or.inl ⟨by rfl, ?_⟩) hS0 ?_
  rotate_left 1
  · (intro w hSw; (try dsimp only at hSw); go_simp; (try with_reducible rfl))
  change wpAnyX _ _ _ _ _ _ _ _ (Act.put _ (some 16) _) _
  try simp only [Act.put, List.setIfInBounds_toArray, List.set_cons_zero, List.set_cons_succ]
  refine wpAnyX_take (i := 5) (oi := _) (v := ?_) rfl (by kernel_rfl) (by kernel_rfl) (by kernel_rfl) (by kernel_rfl) (fun _ _ _ h => h) (Or.inl ⟨by rfl, ?_⟩) hS0 ?_
  rotate_left 1
  · (intro w hSw; (try dsimp only at hSw); go_simp; (try with_reducible rfl))
  change wpAnyX _ _ _ _ _ _ _ _ (Act.put _ (some 17) _) _
  try simp only [Act.put, List.setIfInBounds_toArray, List.set_cons_zero, List.set_cons_succ]
  refine wpAnyX_take (i := 7) (oi := _) (v := ?_) rfl (by kernel_rfl) (by kernel_rfl) (by kernel_rfl) (by kernel_rfl) (fun _ _ _ h => h) (Or.inl ⟨by rfl, ?_⟩) hS0 ?_
  rotate_left 1
  · (intro w hSw; (try dsimp only at hSw); go_simp; (try with_reducible rfl))
  change wpAnyX _ _ _ _ _ _ _ _ (Act.put _ (some 19) _) _
  try simp only [Act.put, List.setIfInBounds_toArray, List.set_cons_zero, List.set_cons_succ]
  refine wpAnyX_take (i := 8) (oi := _) (v := ?_) rfl (by kernel_rfl) (by kernel_rfl) (by kernel_rfl) (by kernel_rfl) (fun _ _ _ h => h) (Or.inl ⟨by rfl, ?_⟩) hS0 ?_
  rotate_left 1
  · (intro w hSw; (try dsimp only at hSw); go_simp; (try with_reducible rfl))
  change wpAnyX _ _ _ _ _ _ _ _ (Act.put _ (some 20) _) _
  try simp only [Act.put, List.setIfInBounds_toArray, List.set_cons_zero, List.set_cons_succ]
  refine wpAnyX_take (i := 9) (oi := _) (v := ?_) rfl (by kernel_rfl) (by kernel_rfl) (by kernel_rfl) (by kernel_rfl) (fun _ _ _ h => h) (Or.inl ⟨by rfl, ?_⟩) hS0 ?_
  rotate_left 1
  · (intro w hSw; (try dsimp only at hSw); go_simp; (try with_reducible rfl))
  change wpAnyX _ _ _ _ _ _ _ _ (Act.put _ (some 21) _) _
  try simp only [Act.put, List.setIfInBounds_toArray, List.set_cons_zero, List.set_cons_succ]
  refine wpAnyX_two (i := 6) (j := 12) (oi := _) (oj := _) rfl rfl (by kernel_rfl) (fun K hK => ?_) (fun K hK => ?_)
  · go_simp
    refine (HR1.out _).mono ?_
    rintro ee v ⟨rfl, rfl⟩
    refine hK.out _ _ (fun _ => ?_) (fun hS1 => ?_)
    · first | exact hS0 | exact ⟨kald (hS0.1), kald (hS0.2.1), kald (hS0.2.2)⟩ | exact ⟨kal (hS0.1), kal (hS0.2.1), kal (hS0.2.2)⟩ | exact ⟨kal p0, kal p1, kal p2⟩
    clear hK K
    have hS1 := hS1 (by decide)
    try simp only [Act.put, List.setIfInBounds_toArray, List.set_cons_zero, List.set_cons_succ]
    refine wpAnyX_two (i := 10) (j := 12) (oi := _) (oj := _) rfl rfl (by kernel_rfl) (fun K hK => ?_) (fun K hK => ?_)
    · go_simp
      refine (HR2.out _).mono ?_
      rintro ee v ⟨rfl, rfl⟩
      refine hK.out _ _ (fun _ => ?_) (fun hS2 => ?_)
      · first | exact hS1 | exact ⟨kald (hS1.1), kald (hS1.2.1), kald (hS1.2.2)⟩ | exact ⟨kal (hS1.1), kal (hS1.2.1), kal (hS1.2.2)⟩ | exact ⟨kal p0, kal p1, kal p2⟩
      clear hK K
      have hS2 := hS2 (by decide)
      try simp only [Act.put, List.setIfInBounds_toArray, List.set_cons_zero, List.set_cons_succ]
      refine wpAnyX_take (i := 11) (oi := _) (v := ?_) rfl (by kernel_rfl) (by kernel_rfl) (by kernel_rfl) (by kernel_rfl) (fun _ _ _ h => h) (Or.inl ⟨by rfl, ?_⟩) hS2 ?_
      rotate_left 1
      · (intro w hSw; (try dsimp only at hSw); go_simp; (try with_reducible rfl))
      change wpAnyX _ _ _ _ _ _ _ _ (Act.put _ (some 23) _) _
      try simp only [Act.put, List.setIfInBounds_toArray, List.set_cons_zero, List.set_cons_succ]
      refine wpAnyX_one (i := 12) (o := _) rfl (by kernel_rfl) (fun K hK => ?_)
      go_simp
      refine hK.out _ _ (fun _ => ?_) (fun hS3 => ?_)
      · first | exact hS2 | exact ⟨kald (hS2.1), kald (hS2.2.1), kald (hS2.2.2)⟩ | exact ⟨kal (hS2.1), kal (hS2.2.1), kal (hS2.2.2)⟩ | exact ⟨kal p0, kal p1, kal p2⟩
      clear hK K
      have hS3 := hS3 (by decide)
      try simp only [Act.put, List.setIfInBounds_toArray, List.set_cons_zero, List.set_cons_succ]
      refine wpAnyX_one (i := 13) (o := _) rfl (by kernel_rfl) (fun K hK => ?_)
      go_simp
      refine hK.out _ _ (fun _ => ?_) (fun hS4 => ?_)
      · first | exact hS3 | exact ⟨kald (hS3.1), kald (hS3.2.1), kald (hS3.2.2)⟩ | exact ⟨kal (hS3.1), kal (hS3.2.1), kal (hS3.2.2)⟩ | exact ⟨kal p0, kal p1, kal p2⟩
      clear hK K
      have hS4 := hS4 (by decide)
      try simp only [Act.put, List.setIfInBounds_toArray, List.set_cons_zero, List.set_cons_succ]
      refine wpAnyX_done (by kernel_rfl) ?_ _
      obtain ⟨w5, hw5⟩ : ∃ W, W = (w1.alloc (.cells #[.string x, .int .i64 v1, .int .i64 v2] 30)).drew := ⟨_, rfl⟩
      obtain ⟨b, hbn⟩ : ∃ b, b = w1.heap.size := ⟨_, rfl⟩
      have XF5 : Bx w5 b 30 #[.string x, .int .i64 v1, .int .i64 v2] := by rw [hw5]; exact (Bx.new hbn).drew
      have X05 : Bx w5 w.heap.size 30 #[.string ByteArray.empty, .int .i64 0, .int .i64 0] := by rw [hw5]; exact (X0.alloc _).drew
      have HB5 : Below w.heap.size w w5 := by rw [hw5]; exact (HB1.alloc (by omega) _).drew
      have k0 : w5.cell? ⟨g, o, none⟩ = some (.string x) := by rw [hw5]; exact kal p0
      have hbz : w.heap.size < b := by omega
      have hne2 : w.heap.size ≠ b := by omega
      rw [← hw5, ← hbn]
      clear hw5 hbn hS0 X0 HB1 hz p0 p1 p2 yp0 yp1 yp2
      have d0 := XF5.c 0 rfl
      have df := XF5.f 0
      go_upto_region 7 with (fail)
      have XF6 := XF5
      have X06 := X05
      have HB6 := HB5
      clear XF5 X05 HB5 d0 df k0
      have e0 := XF6.c 0 rfl
      have e1 := XF6.c 1 rfl
      have e2 := XF6.c 2 rfl
      go_wp2_with (go_at_call 18; refine (HV.out _).mono ?_)
      rintro ee w7 ⟨rfl, hb7⟩
      have XF7 := XF6.mono hb7
      have X07 := X06.mono hb7
      have HB7 := HB6.trans (hb7.mono HB6.size)
      clear e0 e1 e2 hb7 XF6 X06 HB6
      have e0 := XF7.c 0 rfl
      have e1 := XF7.c 1 rfl
      have e2 := XF7.c 2 rfl
      go_wp2_with (go_at_call 28; refine (HT.out _).mono ?_)
      rintro ee w8 ⟨rfl, hb8⟩
      have XF8 := XF7.mono hb8
      have X08 := X07.mono hb8
      have HB8 := HB7.trans (hb8.mono HB7.size)
      clear e0 e1 e2 hb8 XF7 X07 HB7
      have e0 := XF8.c 0 rfl
      have e1 := XF8.c 1 rfl
      have e2 := XF8.c 2 rfl
      have g0 := X08.c 0 rfl
      have g1 := X08.c 1 rfl
      have g2 := X08.c 2 rfl
      have gf := X08.f
      go_wp2_with (fail)
      obtain ⟨w9, hw9⟩ : ∃ W, W = ((w8.setCell ⟨w.heap.size, 0, none⟩ (.string x)).setCell ⟨w.heap.size, 1, none⟩ (.int .i64 v1)).setCell ⟨w.heap.size, 2, none⟩ (.int .i64 v2) := ⟨_, rfl⟩
      have X9 : Bx w9 w.heap.size 30 #[.string x, .int .i64 v1, .int .i64 v2] := by rw [hw9]; exact ((X08.set rfl).set rfl).set rfl
      have HB9 : Below w.heap.size w w9 := by rw [hw9]; exact ((HB8.setCell (p := ⟨w.heap.size, 0, none⟩) (Nat.le_refl _) _).setCell (p := ⟨w.heap.size, 1, none⟩) (Nat.le_refl _) _).setCell (p := ⟨w.heap.size, 2, none⟩) (Nat.le_refl _) _
      rw [← hw9]
      clear hw9 X08 HB8 g0 g1 g2 gf
      have r0 := X9.c 0 rfl
      have r1 := X9.c 1 rfl
      have r2 := X9.c 2 rfl
      refine bodyPost_ret (v := .tuple #[fmv x v1 v2, .bool true]) (by first | (simp only [results, Tryd.results15]; go_simp; done) | (simp [results, Tryd.results15, go_sem, *]; done)) rfl ⟨rfl, HB9⟩
    · go_simp
      refine hK.out _ _ (fun _ => ?_) (fun hS2 => ?_)
      · first | exact hS1 | exact ⟨kald (hS1.1), kald (hS1.2.1), kald (hS1.2.2)⟩ | exact ⟨kal (hS1.1), kal (hS1.2.1), kal (hS1.2.2)⟩ | exact ⟨kal p0, kal p1, kal p2⟩
      clear hK K
      have hS2 := hS2 (by decide)
      try simp only [Act.put, List.setIfInBounds_toArray, List.set_cons_zero, List.set_cons_succ]
      refine wpAnyX_one (i := 10) (o := _) rfl (by kernel_rfl) (fun K hK => ?_)
      go_simp
      refine (HR2.out _).mono ?_
      rintro ee v ⟨rfl, rfl⟩
      refine hK.out _ _ (fun _ => ?_) (fun hS3 => ?_)
      · first | exact hS2 | exact ⟨kald (hS2.1), kald (hS2.2.1), kald (hS2.2.2)⟩ | exact ⟨kal (hS2.1), kal (hS2.2.1), kal (hS2.2.2)⟩ | exact ⟨kal p0, kal p1, kal p2⟩
      clear hK K
      have hS3 := hS3 (by decide)
      try simp only [Act.put, List.setIfInBounds_toArray, List.set_cons_zero, List.set_cons_succ]
      refine wpAnyX_take (i := 11) (oi := _) (v := ?_) rfl (by kernel_rfl) (by kernel_rfl) (by kernel_rfl) (by kernel_rfl) (fun _ _ _ h => h) (Or.inl ⟨by rfl, ?_⟩) hS3 ?_
      rotate_left 1
      · (intro w hSw; (try dsimp only at hSw); go_simp; (try with_reducible rfl))
      change wpAnyX _ _ _ _ _ _ _ _ (Act.put _ (some 23) _) _
      try simp only [Act.put, List.setIfInBounds_toArray, List.set_cons_zero, List.set_cons_succ]
      refine wpAnyX_one (i := 13) (o := _) rfl (by kernel_rfl) (fun K hK => ?_)
      go_simp
      refine hK.out _ _ (fun _ => ?_) (fun hS4 => ?_)
      · first | exact hS3 | exact ⟨kald (hS3.1), kald (hS3.2.1), kald (hS3.2.2)⟩ | exact ⟨kal (hS3.1), kal (hS3.2.1), kal (hS3.2.2)⟩ | exact ⟨kal p0, kal p1, kal p2⟩
      clear hK K
      have hS4 := hS4 (by decide)
      try simp only [Act.put, List.setIfInBounds_toArray, List.set_cons_zero, List.set_cons_succ]
      refine wpAnyX_done (by kernel_rfl) ?_ _
      obtain ⟨w5, hw5⟩ : ∃ W, W = (w1.alloc (.cells #[.string x, .int .i64 v1, .int .i64 v2] 30)).drew := ⟨_, rfl⟩
      obtain ⟨b, hbn⟩ : ∃ b, b = w1.heap.size := ⟨_, rfl⟩
      have XF5 : Bx w5 b 30 #[.string x, .int .i64 v1, .int .i64 v2] := by rw [hw5]; exact (Bx.new hbn).drew
      have X05 : Bx w5 w.heap.size 30 #[.string ByteArray.empty, .int .i64 0, .int .i64 0] := by rw [hw5]; exact (X0.alloc _).drew
      have HB5 : Below w.heap.size w w5 := by rw [hw5]; exact (HB1.alloc (by omega) _).drew
      have k0 : w5.cell? ⟨g, o, none⟩ = some (.string x) := by rw [hw5]; exact kal p0
      have hbz : w.heap.size < b := by omega
      have hne2 : w.heap.size ≠ b := by omega
      rw [← hw5, ← hbn]
      clear hw5 hbn hS0 X0 HB1 hz p0 p1 p2 yp0 yp1 yp2
      have d0 := XF5.c 0 rfl
      have df := XF5.f 0
      go_upto_region 7 with (fail)
      have XF6 := XF5
      have X06 := X05
      have HB6 := HB5
      clear XF5 X05 HB5 d0 df k0
      have e0 := XF6.c 0 rfl
      have e1 := XF6.c 1 rfl
      have e2 := XF6.c 2 rfl
      go_wp2_with (go_at_call 18; refine (HV.out _).mono ?_)
      rintro ee w7 ⟨rfl, hb7⟩
      have XF7 := XF6.mono hb7
      have X07 := X06.mono hb7
      have HB7 := HB6.trans (hb7.mono HB6.size)
      clear e0 e1 e2 hb7 XF6 X06 HB6
      have e0 := XF7.c 0 rfl
      have e1 := XF7.c 1 rfl
      have e2 := XF7.c 2 rfl
      go_wp2_with (go_at_call 28; refine (HT.out _).mono ?_)
      rintro ee w8 ⟨rfl, hb8⟩
      have XF8 := XF7.mono hb8
      have X08 := X07.mono hb8
      have HB8 := HB7.trans (hb8.mono HB7.size)
      clear e0 e1 e2 hb8 XF7 X07 HB7
      have e0 := XF8.c 0 rfl
      have e1 := XF8.c 1 rfl
      have e2 := XF8.c 2 rfl
      have g0 := X08.c 0 rfl
      have g1 := X08.c 1 rfl
      have g2 := X08.c 2 rfl
      have gf := X08.f
      go_wp2_with (fail)
      obtain ⟨w9, hw9⟩ : ∃ W, W = ((w8.setCell ⟨w.heap.size, 0, none⟩ (.string x)).setCell ⟨w.heap.size, 1, none⟩ (.int .i64 v1)).setCell ⟨w.heap.size, 2, none⟩ (.int .i64 v2) := ⟨_, rfl⟩
      have X9 : Bx w9 w.heap.size 30 #[.string x, .int .i64 v1, .int .i64 v2] := by rw [hw9]; exact ((X08.set rfl).set rfl).set rfl
      have HB9 : Below w.heap.size w w9 := by rw [hw9]; exact ((HB8.setCell (p := ⟨w.heap.size, 0, none⟩) (Nat.le_refl _) _).setCell (p := ⟨w.heap.size, 1, none⟩) (Nat.le_refl _) _).setCell (p := ⟨w.heap.size, 2, none⟩) (Nat.le_refl _) _
      rw [← hw9]
      clear hw9 X08 HB8 g0 g1 g2 gf
      have r0 := X9.c 0 rfl
      have r1 := X9.c 1 rfl
      have r2 := X9.c 2 rfl
      refine bodyPost_ret (v := .tuple #[fmv x v1 v2, .bool true]) (by first | (simp only [results, Tryd.results15]; go_simp; done) | (simp [results, Tryd.results15, go_sem, *]; done)) rfl ⟨rfl, HB9⟩
  · go_simp
    refine hK.out _ _ (fun _ => ?_) (fun hS1 => ?_)
    · first | exact hS0 | exact ⟨kald (hS0.1), kald (hS0.2.1), kald (hS0.2.2)⟩ | exact ⟨kal (hS0.1), kal (hS0.2.1), kal (hS0.2.2)⟩ | exact ⟨kal p0, kal p1, kal p2⟩
    clear hK K
    have hS1 := hS1 (by decide)
    try simp only [Act.put, List.setIfInBounds_toArray, List.set_cons_zero, List.set_cons_succ]
    refine wpAnyX_one (i := 6) (o := _) rfl (by kernel_rfl) (fun K hK => ?_)
    go_simp
    refine (HR1.out _).mono ?_
    rintro ee v ⟨rfl, rfl⟩
    refine hK.out _ _ (fun _ => ?_) (fun hS2 => ?_)
    · first | exact hS1 | exact ⟨kald (hS1.1), kald (hS1.2.1), kald (hS1.2.2)⟩ | exact ⟨kal (hS1.1), kal (hS1.2.1), kal (hS1.2.2)⟩ | exact ⟨kal p0, kal p1, kal p2⟩
    clear hK K
    have hS2 := hS2 (by decide)
    try simp only [Act.put, List.setIfInBounds_toArray, List.set_cons_zero, List.set_cons_succ]
    refine wpAnyX_one (i := 10) (o := _) rfl (by kernel_rfl) (fun K hK => ?_)
    go_simp
    refine (HR2.out _).mono ?_
    rintro ee v ⟨rfl, rfl⟩
    refine hK.out _ _ (fun _ => ?_) (fun hS3 => ?_)
    · first | exact hS2 | exact ⟨kald (hS2.1), kald (hS2.2.1), kald (hS2.2.2)⟩ | exact ⟨kal (hS2.1), kal (hS2.2.1), kal (hS2.2.2)⟩ | exact ⟨kal p0, kal p1, kal p2⟩
    clear hK K
    have hS3 := hS3 (by decide)
    try simp only [Act.put, List.setIfInBounds_toArray, List.set_cons_zero, List.set_cons_succ]
    refine wpAnyX_take (i := 11) (oi := _) (v := ?_) rfl (by kernel_rfl) (by kernel_rfl) (by kernel_rfl) (by kernel_rfl) (fun _ _ _ h => h) (Or.inl ⟨by rfl, ?_⟩) hS3 ?_
    rotate_left 1
    · (intro w hSw; (try dsimp only at hSw); go_simp; (try with_reducible rfl))
    change wpAnyX _ _ _ _ _ _ _ _ (Act.put _ (some 23) _) _
    try simp only [Act.put, List.setIfInBounds_toArray, List.set_cons_zero, List.set_cons_succ]
    refine wpAnyX_one (i := 13) (o := _) rfl (by kernel_rfl) (fun K hK => ?_)
    go_simp
    refine hK.out _ _ (fun _ => ?_) (fun hS4 => ?_)
    · first | exact hS3 | exact ⟨kald (hS3.1), kald (hS3.2.1), kald (hS3.2.2)⟩ | exact ⟨kal (hS3.1), kal (hS3.2.1), kal (hS3.2.2)⟩ | exact ⟨kal p0, kal p1, kal p2⟩
    clear hK K
    have hS4 := hS4 (by decide)
    try simp only [Act.put, List.setIfInBounds_toArray, List.set_cons_zero, List.set_cons_succ]
    refine wpAnyX_done (by kernel_rfl) ?_ _
    obtain ⟨w5, hw5⟩ : ∃ W, W = (w1.alloc (.cells #[.string x, .int .i64 v1, .int .i64 v2] 30)).drew := ⟨_, rfl⟩
    obtain ⟨b, hbn⟩ : ∃ b, b = w1.heap.size := ⟨_, rfl⟩
    have XF5 : Bx w5 b 30 #[.string x, .int .i64 v1, .int .i64 v2] := by rw [hw5]; exact (Bx.new hbn).drew
    have X05 : Bx w5 w.heap.size 30 #[.string ByteArray.empty, .int .i64 0, .int .i64 0] := by rw [hw5]; exact (X0.alloc _).drew
    have HB5 : Below w.heap.size w w5 := by rw [hw5]; exact (HB1.alloc (by omega) _).drew
    have k0 : w5.cell? ⟨g, o, none⟩ = some (.string x) := by rw [hw5]; exact kal p0
    have hbz : w.heap.size < b := by omega
    have hne2 : w.heap.size ≠ b := by omega
    rw [← hw5, ← hbn]
    clear hw5 hbn hS0 X0 HB1 hz p0 p1 p2 yp0 yp1 yp2
    have d0 := XF5.c 0 rfl
    have df := XF5.f 0
    go_upto_region 7 with (fail)
    have XF6 := XF5
    have X06 := X05
    have HB6 := HB5
    clear XF5 X05 HB5 d0 df k0
    have e0 := XF6.c 0 rfl
    have e1 := XF6.c 1 rfl
    have e2 := XF6.c 2 rfl
    go_wp2_with (go_at_call 18; refine (HV.out _).mono ?_)
    rintro ee w7 ⟨rfl, hb7⟩
    have XF7 := XF6.mono hb7
    have X07 := X06.mono hb7
    have HB7 := HB6.trans (hb7.mono HB6.size)
    clear e0 e1 e2 hb7 XF6 X06 HB6
    have e0 := XF7.c 0 rfl
    have e1 := XF7.c 1 rfl
    have e2 := XF7.c 2 rfl
    go_wp2_with (go_at_call 28; refine (HT.out _).mono ?_)
    rintro ee w8 ⟨rfl, hb8⟩
    have XF8 := XF7.mono hb8
    have X08 := X07.mono hb8
    have HB8 := HB7.trans (hb8.mono HB7.size)
    clear e0 e1 e2 hb8 XF7 X07 HB7
    have e0 := XF8.c 0 rfl
    have e1 := XF8.c 1 rfl
    have e2 := XF8.c 2 rfl
    have g0 := X08.c 0 rfl
    have g1 := X08.c 1 rfl
    have g2 := X08.c 2 rfl
    have gf := X08.f
    go_wp2_with (fail)
    obtain ⟨w9, hw9⟩ : ∃ W, W = ((w8.setCell ⟨w.heap.size, 0, none⟩ (.string x)).setCell ⟨w.heap.size, 1, none⟩ (.int .i64 v1)).setCell ⟨w.heap.size, 2, none⟩ (.int .i64 v2) := ⟨_, rfl⟩
    have X9 : Bx w9 w.heap.size 30 #[.string x, .int .i64 v1, .int .i64 v2] := by rw [hw9]; exact ((X08.set rfl).set rfl).set rfl
    have HB9 : Below w.heap.size w w9 := by rw [hw9]; exact ((HB8.setCell (p := ⟨w.heap.size, 0, none⟩) (Nat.le_refl _) _).setCell (p := ⟨w.heap.size, 1, none⟩) (Nat.le_refl _) _).setCell (p := ⟨w.heap.size, 2, none⟩) (Nat.le_refl _) _
    rw [← hw9]
    clear hw9 X08 HB8 g0 g1 g2 gf
    have r0 := X9.c 0 rfl
    have r1 := X9.c 1 rfl
    have r2 := X9.c 2 rfl
    refine bodyPost_ret (v := .tuple #[fmv x v1 v2, .bool true]) (by first | (simp only [results, Tryd.results15]; go_simp; done) | (simp [results, Tryd.results15, go_sem, *]; done)) rfl ⟨rfl, HB9⟩
set_option maxRecDepth 100000 in
set_option maxHeartbeats 8000000 in
theorem psf_n {s x y z T : ByteArray} {v1 v2 : Int} {w : World} (hs : s.size ≤ 1048576) (hL : spl s 32 = [x, y, z]) (hR1 : (∀ W : World, Calls Tryd.prog 33 #[.string y] W fun ee w' => ee = .returned (.int .i64 v1) ∧ W = w')) (hR2 : (∀ W : World, Calls Tryd.prog 33 #[.string z] W fun ee w' => ee = .returned (.int .i64 v2) ∧ W = w')) (hV : (∀ W : World, Calls Tryd.prog 18 #[fmv x v1 v2] W fun ee w' => ee = .returned (.bool true) ∧ Below W.heap.size W w')) (hT : (∀ W : World, Calls Tryd.prog 28 #[fmv x v1 v2] W fun ee w' => ee = .returned (.string T) ∧ Below W.heap.size W w')) (hx : ¬ (x = ByteArray.mk #[45])) (hTs : ¬ (T = s)) :
    Calls Tryd.prog 15 #[.string s] w fun ee w' => ee = .returned (.tuple #[fmv (ByteArray.mk #[]) 0 0, .bool false]) ∧ Below w.heap.size w w' := by
  have hsp := lay0 (fun w => split_s hL hs w)
  clear hL hs
  have hx2 : (x.toList == [45]) = false := nx45 hx
  have hT2 : (T.toList == s.toList) = false := neb hTs
  have HR1 := lay0 hR1
  have HR2 := lay0 hR2
  have HV := lay0 hV
  have HT := lay0 hT
  clear hR1 hR2 hV hT
  go_enter Tryd.func15, Tryd.ntmps15
  go_wp2_with (go_at_call 32; refine (hsp.out _).mono ?_)
  rintro ee w1 ⟨A, cp, rfl, hRd, hb1⟩
  obtain ⟨g, o, rfl, p0, p1, p2⟩ := rd3 hRd
  have X0 : Bx w1 w.heap.size 30 #[.string ByteArray.empty, .int .i64 0, .int .i64 0] := (Bx.new rfl).mono hb1
  have HB1 := ((Below.refl w.heap.size w).alloc (Nat.le_refl _) _).trans (hb1.mono (by simp))
  have hz : w.heap.size < w1.heap.size := X0.lt
  clear hb1 hRd
  go_upto_region 4 with (fail)
  have yp0 : w1.drew.cell? ⟨g, o, none⟩ = some (.string x) := p0
  have yp1 : w1.drew.cell? ⟨g, o + 1, none⟩ = some (.string y) := p1
  have yp2 : w1.drew.cell? ⟨g, o + 2, none⟩ = some (.string z) := p2
  refine wp_region_x (fun w' => w'.cell? ⟨g, o, none⟩ = some (.string x) ∧ w'.cell? ⟨g, o + 1, none⟩ = some (.string y) ∧ w'.cell? ⟨g, o + 2, none⟩ = some (.string z)) 1000 (by kernel_rfl) ⟨yp0, yp1, yp2⟩ (fun hS0 => ?_)
  refine wpAnyX_take (i := 0) (oi := _) (v := ?_) rfl (by kernel_rfl) (by kernel_rfl) (by kernel_rfl) (by kernel_rfl) (fun _ _ _ h => h) (Or.inl ⟨by rfl, ?_⟩) hS0 ?_
  rotate_left 1
  · (intro w hSw; (try dsimp only at hSw); go_simp; (try with_reducible rfl))
  change wpAnyX _ _ _ _ _ _ _ _ (Act.put _ (some 12) _) _
  try simp only [Act.put, List.setIfInBounds_toArray, List.set_cons_zero, List.set_cons_succ]
  refine wpAnyX_take (i := 1) (oi := _) (v := ?_) rfl (by kernel_rfl) (by kernel_rfl) (by kernel_rfl) (by kernel_rfl) (fun _ _ _ h => h) (Or.inl ⟨by rfl, ?_⟩) hS0 ?_
  rotate_left 1
  · (intro w hSw; (try dsimp only at hSw); go_simp; (try with_reducible rfl))
  change wpAnyX _ _ _ _ _ _ _ _ (Act.put _ (some 13) _) _
  try simp only [Act.put, List.setIfInBounds_toArray, List.set_cons_zero, List.set_cons_succ]
  refine wpAnyX_take (i := 2) (oi := _) (v := ?_) rfl (by kernel_rfl) (by kernel_rfl) (by kernel_rfl) (by kernel_rfl) (fun _ _ _ h => h) (Or.inl ⟨by rfl, ?_⟩) hS0 ?_
  rotate_left 1
  · (intro w hSw; (try dsimp only at hSw); go_simp; (try with_reducible rfl))
  change wpAnyX _ _ _ _ _ _ _ _ (Act.put _ (some 14) _) _
  try simp only [Act.put, List.setIfInBounds_toArray, List.set_cons_zero, List.set_cons_succ]
  refine wpAnyX_take (i := 3) (oi := _) (v := ?_) rfl (by kernel_rfl) (by kernel_rfl) (by kernel_rfl) (by kernel_rfl) (fun _ _ _ h => h) (Or.inl ⟨by rfl, ?_⟩) hS0 ?_
  rotate_left 1
  · (intro w hSw; (try dsimp only at hSw); go_simp; (try with_reducible rfl))
  change wpAnyX _ _ _ _ _ _ _ _ (Act.put _ (some 15) _) _
  try simp only [Act.put, List.setIfInBounds_toArray, List.set_cons_zero, List.set_cons_succ]
  refine wpAnyX_take (i := 4) (oi := _) (v := ?_) rfl (by kernel_rfl) (by kernel_rfl) (by kernel_rfl) (by kernel_rfl) (fun _ _ _ h => h) (Or.inl ⟨by rfl, ?_⟩) hS0 ?_
  rotate_left 1
  · (intro w hSw; (try dsimp only at hSw); go_simp; (try with_reducible rfl))
  change wpAnyX _ _ _ _ _ _ _ _ (Act.put _ (some 16) _) _
  try simp only [Act.put, List.setIfInBounds_toArray, List.set_cons_zero, List.set_cons_succ]
  refine wpAnyX_take (i := 5) (oi := _) (v := ?_) rfl (by kernel_rfl) (by kernel_rfl) (by kernel_rfl) (by kernel_rfl) (fun _ _ _ h => h) (Or.inl ⟨by rfl, ?_⟩) hS0 ?_
  rotate_left 1
  · (intro w hSw; (try dsimp only at hSw); go_simp; (try with_reducible rfl))
  change wpAnyX _ _ _ _ _ _ _ _ (Act.put _ (some 17) _) _
  try simp only [Act.put, List.setIfInBounds_toArray, List.set_cons_zero, List.set_cons_succ]
  refine wpAnyX_take (i := 7) (oi := _) (v := ?_) rfl (by kernel_rfl) (by kernel_rfl) (by kernel_rfl) (by kernel_rfl) (fun _ _ _ h => h) (Or.inl ⟨by rfl, ?_⟩) hS0 ?_
  rotate_left 1
  · (intro w hSw; (try dsimp only at hSw); go_simp; (try with_reducible rfl))
  change wpAnyX _ _ _ _ _ _ _ _ (Act.put _ (some 19) _) _
  try simp only [Act.put, List.setIfInBounds_toArray, List.set_cons_zero, List.set_cons_succ]
  refine wpAnyX_take (i := 8) (oi := _) (v := ?_) rfl (by kernel_rfl) (by kernel_rfl) (by kernel_rfl) (by kernel_rfl) (fun _ _ _ h => h) (Or.inl ⟨by rfl, ?_⟩) hS0 ?_
  rotate_left 1
  · (intro w hSw; (try dsimp only at hSw); go_simp; (try with_reducible rfl))
  change wpAnyX _ _ _ _ _ _ _ _ (Act.put _ (some 20) _) _
  try simp only [Act.put, List.setIfInBounds_toArray, List.set_cons_zero, List.set_cons_succ]
  refine wpAnyX_take (i := 9) (oi := _) (v := ?_) rfl (by kernel_rfl) (by kernel_rfl) (by kernel_rfl) (by kernel_rfl) (fun _ _ _ h => h) (Or.inl ⟨by rfl, ?_⟩) hS0 ?_
  rotate_left 1
  · (intro w hSw; (try dsimp only at hSw); go_simp; (try with_reducible rfl))
  change wpAnyX _ _ _ _ _ _ _ _ (Act.put _ (some 21) _) _
  try simp only [Act.put, List.setIfInBounds_toArray, List.set_cons_zero, List.set_cons_succ]
  refine wpAnyX_two (i := 6) (j := 12) (oi := _) (oj := _) rfl rfl (by kernel_rfl) (fun K hK => ?_) (fun K hK => ?_)
  · go_simp
    refine (HR1.out _).mono ?_
    rintro ee v ⟨rfl, rfl⟩
    refine hK.out _ _ (fun _ => ?_) (fun hS1 => ?_)
    · first | exact hS0 | exact ⟨kald (hS0.1), kald (hS0.2.1), kald (hS0.2.2)⟩ | exact ⟨kal (hS0.1), kal (hS0.2.1), kal (hS0.2.2)⟩ | exact ⟨kal p0, kal p1, kal p2⟩
    clear hK K
    have hS1 := hS1 (by decide)
    try simp only [Act.put, List.setIfInBounds_toArray, List.set_cons_zero, List.set_cons_succ]
    refine wpAnyX_two (i := 10) (j := 12) (oi := _) (oj := _) rfl rfl (by kernel_rfl) (fun K hK => ?_) (fun K hK => ?_)
    · go_simp
      refine (HR2.out _).mono ?_
      rintro ee v ⟨rfl, rfl⟩
      refine hK.out _ _ (fun _ => ?_) (fun hS2 => ?_)
      · first | exact hS1 | exact ⟨kald (hS1.1), kald (hS1.2.1), kald (hS1.2.2)⟩ | exact ⟨kal (hS1.1), kal (hS1.2.1), kal (hS1.2.2)⟩ | exact ⟨kal p0, kal p1, kal p2⟩
      clear hK K
      have hS2 := hS2 (by decide)
      try simp only [Act.put, List.setIfInBounds_toArray, List.set_cons_zero, List.set_cons_succ]
      refine wpAnyX_take (i := 11) (oi := _) (v := ?_) rfl (by kernel_rfl) (by kernel_rfl) (by kernel_rfl) (by kernel_rfl) (fun _ _ _ h => h) (Or.inl ⟨by rfl, ?_⟩) hS2 ?_
      rotate_left 1
      · (intro w hSw; (try dsimp only at hSw); go_simp; (try with_reducible rfl))
      change wpAnyX _ _ _ _ _ _ _ _ (Act.put _ (some 23) _) _
      try simp only [Act.put, List.setIfInBounds_toArray, List.set_cons_zero, List.set_cons_succ]
      refine wpAnyX_one (i := 12) (o := _) rfl (by kernel_rfl) (fun K hK => ?_)
      go_simp
      refine hK.out _ _ (fun _ => ?_) (fun hS3 => ?_)
      · first | exact hS2 | exact ⟨kald (hS2.1), kald (hS2.2.1), kald (hS2.2.2)⟩ | exact ⟨kal (hS2.1), kal (hS2.2.1), kal (hS2.2.2)⟩ | exact ⟨kal p0, kal p1, kal p2⟩
      clear hK K
      have hS3 := hS3 (by decide)
      try simp only [Act.put, List.setIfInBounds_toArray, List.set_cons_zero, List.set_cons_succ]
      refine wpAnyX_one (i := 13) (o := _) rfl (by kernel_rfl) (fun K hK => ?_)
      go_simp
      refine hK.out _ _ (fun _ => ?_) (fun hS4 => ?_)
      · first | exact hS3 | exact ⟨kald (hS3.1), kald (hS3.2.1), kald (hS3.2.2)⟩ | exact ⟨kal (hS3.1), kal (hS3.2.1), kal (hS3.2.2)⟩ | exact ⟨kal p0, kal p1, kal p2⟩
      clear hK K
      have hS4 := hS4 (by decide)
      try simp only [Act.put, List.setIfInBounds_toArray, List.set_cons_zero, List.set_cons_succ]
      refine wpAnyX_done (by kernel_rfl) ?_ _
      obtain ⟨w5, hw5⟩ : ∃ W, W = (w1.alloc (.cells #[.string x, .int .i64 v1, .int .i64 v2] 30)).drew := ⟨_, rfl⟩
      obtain ⟨b, hbn⟩ : ∃ b, b = w1.heap.size := ⟨_, rfl⟩
      have XF5 : Bx w5 b 30 #[.string x, .int .i64 v1, .int .i64 v2] := by rw [hw5]; exact (Bx.new hbn).drew
      have X05 : Bx w5 w.heap.size 30 #[.string ByteArray.empty, .int .i64 0, .int .i64 0] := by rw [hw5]; exact (X0.alloc _).drew
      have HB5 : Below w.heap.size w w5 := by rw [hw5]; exact (HB1.alloc (by omega) _).drew
      have k0 : w5.cell? ⟨g, o, none⟩ = some (.string x) := by rw [hw5]; exact kal p0
      have hbz : w.heap.size < b := by omega
      have hne2 : w.heap.size ≠ b := by omega
      rw [← hw5, ← hbn]
      clear hw5 hbn hS0 X0 HB1 hz p0 p1 p2 yp0 yp1 yp2
      have d0 := XF5.c 0 rfl
      have df := XF5.f 0
      go_upto_region 7 with (fail)
      have XF6 := XF5
      have X06 := X05
      have HB6 := HB5
      clear XF5 X05 HB5 d0 df k0
      have e0 := XF6.c 0 rfl
      have e1 := XF6.c 1 rfl
      have e2 := XF6.c 2 rfl
      go_wp2_with (go_at_call 18; refine (HV.out _).mono ?_)
      rintro ee w7 ⟨rfl, hb7⟩
      have XF7 := XF6.mono hb7
      have X07 := X06.mono hb7
      have HB7 := HB6.trans (hb7.mono HB6.size)
      clear e0 e1 e2 hb7 XF6 X06 HB6
      have e0 := XF7.c 0 rfl
      have e1 := XF7.c 1 rfl
      have e2 := XF7.c 2 rfl
      go_wp2_with (go_at_call 28; refine (HT.out _).mono ?_)
      rintro ee w8 ⟨rfl, hb8⟩
      have XF8 := XF7.mono hb8
      have X08 := X07.mono hb8
      have HB8 := HB7.trans (hb8.mono HB7.size)
      clear e0 e1 e2 hb8 XF7 X07 HB7
      have e0 := XF8.c 0 rfl
      have e1 := XF8.c 1 rfl
      have e2 := XF8.c 2 rfl
      have g0 := X08.c 0 rfl
      have g1 := X08.c 1 rfl
      have g2 := X08.c 2 rfl
      have gf := X08.f
      go_wp2_with (fail)
      obtain ⟨w9, hw9⟩ : ∃ W, W = ((w8.setCell ⟨w.heap.size, 0, none⟩ (.string (ByteArray.mk #[]))).setCell ⟨w.heap.size, 1, none⟩ (.int .i64 0)).setCell ⟨w.heap.size, 2, none⟩ (.int .i64 0) := ⟨_, rfl⟩
      have X9 : Bx w9 w.heap.size 30 #[.string (ByteArray.mk #[]), .int .i64 0, .int .i64 0] := by rw [hw9]; exact ((X08.set rfl).set rfl).set rfl
      have HB9 : Below w.heap.size w w9 := by rw [hw9]; exact ((HB8.setCell (p := ⟨w.heap.size, 0, none⟩) (Nat.le_refl _) _).setCell (p := ⟨w.heap.size, 1, none⟩) (Nat.le_refl _) _).setCell (p := ⟨w.heap.size, 2, none⟩) (Nat.le_refl _) _
      rw [← hw9]
      clear hw9 X08 HB8 g0 g1 g2 gf
      have r0 := X9.c 0 rfl
      have r1 := X9.c 1 rfl
      have r2 := X9.c 2 rfl
      refine bodyPost_ret (v := .tuple #[fmv (ByteArray.mk #[]) 0 0, .bool false]) (by first | (simp only [results, Tryd.results15]; go_simp; done) | (simp [results, Tryd.results15, go_sem, *]; done)) rfl ⟨rfl, HB9⟩
    · go_simp
      refine hK.out _ _ (fun _ => ?_) (fun hS2 => ?_)
      · first | exact hS1 | exact ⟨kald (hS1.1), kald (hS1.2.1), kald (hS1.2.2)⟩ | exact ⟨kal (hS1.1), kal (hS1.2.1), kal (hS1.2.2)⟩ | exact ⟨kal p0, kal p1, kal p2⟩
      clear hK K
      have hS2 := hS2 (by decide)
      try simp only [Act.put, List.setIfInBounds_toArray, List.set_cons_zero, List.set_cons_succ]
      refine wpAnyX_one (i := 10) (o := _) rfl (by kernel_rfl) (fun K hK => ?_)
      go_simp
      refine (HR2.out _).mono ?_
      rintro ee v ⟨rfl, rfl⟩
      refine hK.out _ _ (fun _ => ?_) (fun hS3 => ?_)
      · first | exact hS2 | exact ⟨kald (hS2.1), kald (hS2.2.1), kald (hS2.2.2)⟩ | exact ⟨kal (hS2.1), kal (hS2.2.1), kal (hS2.2.2)⟩ | exact ⟨kal p0, kal p1, kal p2⟩
      clear hK K
      have hS3 := hS3 (by decide)
      try simp only [Act.put, List.setIfInBounds_toArray, List.set_cons_zero, List.set_cons_succ]
      refine wpAnyX_take (i := 11) (oi := _) (v := ?_) rfl (by kernel_rfl) (by kernel_rfl) (by kernel_rfl) (by kernel_rfl) (fun _ _ _ h => h) (Or.inl ⟨by rfl, ?_⟩) hS3 ?_
      rotate_left 1
      · (intro w hSw; (try dsimp only at hSw); go_simp; (try with_reducible rfl))
      change wpAnyX _ _ _ _ _ _ _ _ (Act.put _ (some 23) _) _
      try simp only [Act.put, List.setIfInBounds_toArray, List.set_cons_zero, List.set_cons_succ]
      refine wpAnyX_one (i := 13) (o := _) rfl (by kernel_rfl) (fun K hK => ?_)
      go_simp
      refine hK.out _ _ (fun _ => ?_) (fun hS4 => ?_)
      · first | exact hS3 | exact ⟨kald (hS3.1), kald (hS3.2.1), kald (hS3.2.2)⟩ | exact ⟨kal (hS3.1), kal (hS3.2.1), kal (hS3.2.2)⟩ | exact ⟨kal p0, kal p1, kal p2⟩
      clear hK K
      have hS4 := hS4 (by decide)
      try simp only [Act.put, List.setIfInBounds_toArray, List.set_cons_zero, List.set_cons_succ]
      refine wpAnyX_done (by kernel_rfl) ?_ _
      obtain ⟨w5, hw5⟩ : ∃ W, W = (w1.alloc (.cells #[.string x, .int .i64 v1, .int .i64 v2] 30)).drew := ⟨_, rfl⟩
      obtain ⟨b, hbn⟩ : ∃ b, b = w1.heap.size := ⟨_, rfl⟩
      have XF5 : Bx w5 b 30 #[.string x, .int .i64 v1, .int .i64 v2] := by rw [hw5]; exact (Bx.new hbn).drew
      have X05 : Bx w5 w.heap.size 30 #[.string ByteArray.empty, .int .i64 0, .int .i64 0] := by rw [hw5]; exact (X0.alloc _).drew
      have HB5 : Below w.heap.size w w5 := by rw [hw5]; exact (HB1.alloc (by omega) _).drew
      have k0 : w5.cell? ⟨g, o, none⟩ = some (.string x) := by rw [hw5]; exact kal p0
      have hbz : w.heap.size < b := by omega
      have hne2 : w.heap.size ≠ b := by omega
      rw [← hw5, ← hbn]
      clear hw5 hbn hS0 X0 HB1 hz p0 p1 p2 yp0 yp1 yp2
      have d0 := XF5.c 0 rfl
      have df := XF5.f 0
      go_upto_region 7 with (fail)
      have XF6 := XF5
      have X06 := X05
      have HB6 := HB5
      clear XF5 X05 HB5 d0 df k0
      have e0 := XF6.c 0 rfl
      have e1 := XF6.c 1 rfl
      have e2 := XF6.c 2 rfl
      go_wp2_with (go_at_call 18; refine (HV.out _).mono ?_)
      rintro ee w7 ⟨rfl, hb7⟩
      have XF7 := XF6.mono hb7
      have X07 := X06.mono hb7
      have HB7 := HB6.trans (hb7.mono HB6.size)
      clear e0 e1 e2 hb7 XF6 X06 HB6
      have e0 := XF7.c 0 rfl
      have e1 := XF7.c 1 rfl
      have e2 := XF7.c 2 rfl
      go_wp2_with (go_at_call 28; refine (HT.out _).mono ?_)
      rintro ee w8 ⟨rfl, hb8⟩
      have XF8 := XF7.mono hb8
      have X08 := X07.mono hb8
      have HB8 := HB7.trans (hb8.mono HB7.size)
      clear e0 e1 e2 hb8 XF7 X07 HB7
      have e0 := XF8.c 0 rfl
      have e1 := XF8.c 1 rfl
      have e2 := XF8.c 2 rfl
      have g0 := X08.c 0 rfl
      have g1 := X08.c 1 rfl
      have g2 := X08.c 2 rfl
      have gf := X08.f
      go_wp2_with (fail)
      obtain ⟨w9, hw9⟩ : ∃ W, W = ((w8.setCell ⟨w.heap.size, 0, none⟩ (.string (ByteArray.mk #[]))).setCell ⟨w.heap.size, 1, none⟩ (.int .i64 0)).setCell ⟨w.heap.size, 2, none⟩ (.int .i64 0) := ⟨_, rfl⟩
      have X9 : Bx w9 w.heap.size 30 #[.string (ByteArray.mk #[]), .int .i64 0, .int .i64 0] := by rw [hw9]; exact ((X08.set rfl).set rfl).set rfl
      have HB9 : Below w.heap.size w w9 := by rw [hw9]; exact ((HB8.setCell (p := ⟨w.heap.size, 0, none⟩) (Nat.le_refl _) _).setCell (p := ⟨w.heap.size, 1, none⟩) (Nat.le_refl _) _).setCell (p := ⟨w.heap.size, 2, none⟩) (Nat.le_refl _) _
      rw [← hw9]
      clear hw9 X08 HB8 g0 g1 g2 gf
      have r0 := X9.c 0 rfl
      have r1 := X9.c 1 rfl
      have r2 := X9.c 2 rfl
      refine bodyPost_ret (v := .tuple #[fmv (ByteArray.mk #[]) 0 0, .bool false]) (by first | (simp only [results, Tryd.results15]; go_simp; done) | (simp [results, Tryd.results15, go_sem, *]; done)) rfl ⟨rfl, HB9⟩
  · go_simp
    refine hK.out _ _ (fun _ => ?_) (fun hS1 => ?_)
    · first | exact hS0 | exact ⟨kald (hS0.1), kald (hS0.2.1), kald (hS0.2.2)⟩ | exact ⟨kal (hS0.1), kal (hS0.2.1), kal (hS0.2.2)⟩ | exact ⟨kal p0, kal p1, kal p2⟩
    clear hK K
    have hS1 := hS1 (by decide)
    try simp only [Act.put, List.setIfInBounds_toArray, List.set_cons_zero, List.set_cons_succ]
    refine wpAnyX_one (i := 6) (o := _) rfl (by kernel_rfl) (fun K hK => ?_)
    go_simp
    refine (HR1.out _).mono ?_
    rintro ee v ⟨rfl, rfl⟩
    refine hK.out _ _ (fun _ => ?_) (fun hS2 => ?_)
    · first | exact hS1 | exact ⟨kald (hS1.1), kald (hS1.2.1), kald (hS1.2.2)⟩ | exact ⟨kal (hS1.1), kal (hS1.2.1), kal (hS1.2.2)⟩ | exact ⟨kal p0, kal p1, kal p2⟩
    clear hK K
    have hS2 := hS2 (by decide)
    try simp only [Act.put, List.setIfInBounds_toArray, List.set_cons_zero, List.set_cons_succ]
    refine wpAnyX_one (i := 10) (o := _) rfl (by kernel_rfl) (fun K hK => ?_)
    go_simp
    refine (HR2.out _).mono ?_
    rintro ee v ⟨rfl, rfl⟩
    refine hK.out _ _ (fun _ => ?_) (fun hS3 => ?_)
    · first | exact hS2 | exact ⟨kald (hS2.1), kald (hS2.2.1), kald (hS2.2.2)⟩ | exact ⟨kal (hS2.1), kal (hS2.2.1), kal (hS2.2.2)⟩ | exact ⟨kal p0, kal p1, kal p2⟩
    clear hK K
    have hS3 := hS3 (by decide)
    try simp only [Act.put, List.setIfInBounds_toArray, List.set_cons_zero, List.set_cons_succ]
    refine wpAnyX_take (i := 11) (oi := _) (v := ?_) rfl (by kernel_rfl) (by kernel_rfl) (by kernel_rfl) (by kernel_rfl) (fun _ _ _ h => h) (Or.inl ⟨by rfl, ?_⟩) hS3 ?_
    rotate_left 1
    · (intro w hSw; (try dsimp only at hSw); go_simp; (try with_reducible rfl))
    change wpAnyX _ _ _ _ _ _ _ _ (Act.put _ (some 23) _) _
    try simp only [Act.put, List.setIfInBounds_toArray, List.set_cons_zero, List.set_cons_succ]
    refine wpAnyX_one (i := 13) (o := _) rfl (by kernel_rfl) (fun K hK => ?_)
    go_simp
    refine hK.out _ _ (fun _ => ?_) (fun hS4 => ?_)
    · first | exact hS3 | exact ⟨kald (hS3.1), kald (hS3.2.1), kald (hS3.2.2)⟩ | exact ⟨kal (hS3.1), kal (hS3.2.1), kal (hS3.2.2)⟩ | exact ⟨kal p0, kal p1, kal p2⟩
    clear hK K
    have hS4 := hS4 (by decide)
    try simp only [Act.put, List.setIfInBounds_toArray, List.set_cons_zero, List.set_cons_succ]
    refine wpAnyX_done (by kernel_rfl) ?_ _
    obtain ⟨w5, hw5⟩ : ∃ W, W = (w1.alloc (.cells #[.string x, .int .i64 v1, .int .i64 v2] 30)).drew := ⟨_, rfl⟩
    obtain ⟨b, hbn⟩ : ∃ b, b = w1.heap.size := ⟨_, rfl⟩
    have XF5 : Bx w5 b 30 #[.string x, .int .i64 v1, .int .i64 v2] := by rw [hw5]; exact (Bx.new hbn).drew
    have X05 : Bx w5 w.heap.size 30 #[.string ByteArray.empty, .int .i64 0, .int .i64 0] := by rw [hw5]; exact (X0.alloc _).drew
    have HB5 : Below w.heap.size w w5 := by rw [hw5]; exact (HB1.alloc (by omega) _).drew
    have k0 : w5.cell? ⟨g, o, none⟩ = some (.string x) := by rw [hw5]; exact kal p0
    have hbz : w.heap.size < b := by omega
    have hne2 : w.heap.size ≠ b := by omega
    rw [← hw5, ← hbn]
    clear hw5 hbn hS0 X0 HB1 hz p0 p1 p2 yp0 yp1 yp2
    have d0 := XF5.c 0 rfl
    have df := XF5.f 0
    go_upto_region 7 with (fail)
    have XF6 := XF5
    have X06 := X05
    have HB6 := HB5
    clear XF5 X05 HB5 d0 df k0
    have e0 := XF6.c 0 rfl
    have e1 := XF6.c 1 rfl
    have e2 := XF6.c 2 rfl
    go_wp2_with (go_at_call 18; refine (HV.out _).mono ?_)
    rintro ee w7 ⟨rfl, hb7⟩
    have XF7 := XF6.mono hb7
    have X07 := X06.mono hb7
    have HB7 := HB6.trans (hb7.mono HB6.size)
    clear e0 e1 e2 hb7 XF6 X06 HB6
    have e0 := XF7.c 0 rfl
    have e1 := XF7.c 1 rfl
    have e2 := XF7.c 2 rfl
    go_wp2_with (go_at_call 28; refine (HT.out _).mono ?_)
    rintro ee w8 ⟨rfl, hb8⟩
    have XF8 := XF7.mono hb8
    have X08 := X07.mono hb8
    have HB8 := HB7.trans (hb8.mono HB7.size)
    clear e0 e1 e2 hb8 XF7 X07 HB7
    have e0 := XF8.c 0 rfl
    have e1 := XF8.c 1 rfl
    have e2 := XF8.c 2 rfl
    have g0 := X08.c 0 rfl
    have g1 := X08.c 1 rfl
    have g2 := X08.c 2 rfl
    have gf := X08.f
    go_wp2_with (fail)
    obtain ⟨w9, hw9⟩ : ∃ W, W = ((w8.setCell ⟨w.heap.size, 0, none⟩ (.string (ByteArray.mk #[]))).setCell ⟨w.heap.size, 1, none⟩ (.int .i64 0)).setCell ⟨w.heap.size, 2, none⟩ (.int .i64 0) := ⟨_, rfl⟩
    have X9 : Bx w9 w.heap.size 30 #[.string (ByteArray.mk #[]), .int .i64 0, .int .i64 0] := by rw [hw9]; exact ((X08.set rfl).set rfl).set rfl
    have HB9 : Below w.heap.size w w9 := by rw [hw9]; exact ((HB8.setCell (p := ⟨w.heap.size, 0, none⟩) (Nat.le_refl _) _).setCell (p := ⟨w.heap.size, 1, none⟩) (Nat.le_refl _) _).setCell (p := ⟨w.heap.size, 2, none⟩) (Nat.le_refl _) _
    rw [← hw9]
    clear hw9 X08 HB8 g0 g1 g2 gf
    have r0 := X9.c 0 rfl
    have r1 := X9.c 1 rfl
    have r2 := X9.c 2 rfl
    refine bodyPost_ret (v := .tuple #[fmv (ByteArray.mk #[]) 0 0, .bool false]) (by first | (simp only [results, Tryd.results15]; go_simp; done) | (simp [results, Tryd.results15, go_sem, *]; done)) rfl ⟨rfl, HB9⟩
set_option maxRecDepth 100000 in
set_option maxHeartbeats 8000000 in
theorem psf_f {s x y z T : ByteArray} {v1 v2 : Int} {w : World} (hs : s.size ≤ 1048576) (hL : spl s 32 = [x, y, z]) (hR1 : (∀ W : World, Calls Tryd.prog 33 #[.string y] W fun ee w' => ee = .returned (.int .i64 v1) ∧ W = w')) (hR2 : (∀ W : World, Calls Tryd.prog 33 #[.string z] W fun ee w' => ee = .returned (.int .i64 v2) ∧ W = w')) (hV : (∀ W : World, Calls Tryd.prog 18 #[fmv x v1 v2] W fun ee w' => ee = .returned (.bool false) ∧ Below W.heap.size W w')) (hx : ¬ (x = ByteArray.mk #[45])) :
    Calls Tryd.prog 15 #[.string s] w fun ee w' => ee = .returned (.tuple #[fmv (ByteArray.mk #[]) 0 0, .bool false]) ∧ Below w.heap.size w w' := by
  have hsp := lay0 (fun w => split_s hL hs w)
  clear hL hs
  have hx2 : (x.toList == [45]) = false := nx45 hx
  have HR1 := lay0 hR1
  have HR2 := lay0 hR2
  have HV := lay0 hV
  clear hR1 hR2 hV
  go_enter Tryd.func15, Tryd.ntmps15
  go_wp2_with (go_at_call 32; refine (hsp.out _).mono ?_)
  rintro ee w1 ⟨A, cp, rfl, hRd, hb1⟩
  obtain ⟨g, o, rfl, p0, p1, p2⟩ := rd3 hRd
  have X0 : Bx w1 w.heap.size 30 #[.string ByteArray.empty, .int .i64 0, .int .i64 0] := (Bx.new rfl).mono hb1
  have HB1 := ((Below.refl w.heap.size w).alloc (Nat.le_refl _) _).trans (hb1.mono (by simp))
  have hz : w.heap.size < w1.heap.size := X0.lt
  clear hb1 hRd
  go_upto_region 4 with (fail)
  have yp0 : w1.drew.cell? ⟨g, o, none⟩ = some (.string x) := p0
  have yp1 : w1.drew.cell? ⟨g, o + 1, none⟩ = some (.string y) := p1
  have yp2 : w1.drew.cell? ⟨g, o + 2, none⟩ = some (.string z) := p2
  refine wp_region_x (fun w' => w'.cell? ⟨g, o, none⟩ = some (.string x) ∧ w'.cell? ⟨g, o + 1, none⟩ = some (.string y) ∧ w'.cell? ⟨g, o + 2, none⟩ = some (.string z)) 1000 (by kernel_rfl) ⟨yp0, yp1, yp2⟩ (fun hS0 => ?_)
  refine wpAnyX_take (i := 0) (oi := _) (v := ?_) rfl (by kernel_rfl) (by kernel_rfl) (by kernel_rfl) (by kernel_rfl) (fun _ _ _ h => h) (Or.inl ⟨by rfl, ?_⟩) hS0 ?_
  rotate_left 1
  · (intro w hSw; (try dsimp only at hSw); go_simp; (try with_reducible rfl))
  change wpAnyX _ _ _ _ _ _ _ _ (Act.put _ (some 12) _) _
  try simp only [Act.put, List.setIfInBounds_toArray, List.set_cons_zero, List.set_cons_succ]
  refine wpAnyX_take (i := 1) (oi := _) (v := ?_) rfl (by kernel_rfl) (by kernel_rfl) (by kernel_rfl) (by kernel_rfl) (fun _ _ _ h => h) (Or.inl ⟨by rfl, ?_⟩) hS0 ?_
  rotate_left 1
  · (intro w hSw; (try dsimp only at hSw); go_simp; (try with_reducible rfl))
  change wpAnyX _ _ _ _ _ _ _ _ (Act.put _ (some 13) _) _
  try simp only [Act.put, List.setIfInBounds_toArray, List.set_cons_zero, List.set_cons_succ]
  refine wpAnyX_take (i := 2) (oi := _) (v := ?_) rfl (by kernel_rfl) (by kernel_rfl) (by kernel_rfl) (by kernel_rfl) (fun _ _ _ h => h) (Or.inl ⟨by rfl, ?_⟩) hS0 ?_
  rotate_left 1
  · (intro w hSw; (try dsimp only at hSw); go_simp; (try with_reducible rfl))
  change wpAnyX _ _ _ _ _ _ _ _ (Act.put _ (some 14) _) _
  try simp only [Act.put, List.setIfInBounds_toArray, List.set_cons_zero, List.set_cons_succ]
  refine wpAnyX_take (i := 3) (oi := _) (v := ?_) rfl (by kernel_rfl) (by kernel_rfl) (by kernel_rfl) (by kernel_rfl) (fun _ _ _ h => h) (Or.inl ⟨by rfl, ?_⟩) hS0 ?_
  rotate_left 1
  · (intro w hSw; (try dsimp only at hSw); go_simp; (try with_reducible rfl))
  change wpAnyX _ _ _ _ _ _ _ _ (Act.put _ (some 15) _) _
  try simp only [Act.put, List.setIfInBounds_toArray, List.set_cons_zero, List.set_cons_succ]
  refine wpAnyX_take (i := 4) (oi := _) (v := ?_) rfl (by kernel_rfl) (by kernel_rfl) (by kernel_rfl) (by kernel_rfl) (fun _ _ _ h => h) (Or.inl ⟨by rfl, ?_⟩) hS0 ?_
  rotate_left 1
  · (intro w hSw; (try dsimp only at hSw); go_simp; (try with_reducible rfl))
  change wpAnyX _ _ _ _ _ _ _ _ (Act.put _ (some 16) _) _
  try simp only [Act.put, List.setIfInBounds_toArray, List.set_cons_zero, List.set_cons_succ]
  refine wpAnyX_take (i := 5) (oi := _) (v := ?_) rfl (by kernel_rfl) (by kernel_rfl) (by kernel_rfl) (by kernel_rfl) (fun _ _ _ h => h) (Or.inl ⟨by rfl, ?_⟩) hS0 ?_
  rotate_left 1
  · (intro w hSw; (try dsimp only at hSw); go_simp; (try with_reducible rfl))
  change wpAnyX _ _ _ _ _ _ _ _ (Act.put _ (some 17) _) _
  try simp only [Act.put, List.setIfInBounds_toArray, List.set_cons_zero, List.set_cons_succ]
  refine wpAnyX_take (i := 7) (oi := _) (v := ?_) rfl (by kernel_rfl) (by kernel_rfl) (by kernel_rfl) (by kernel_rfl) (fun _ _ _ h => h) (Or.inl ⟨by rfl, ?_⟩) hS0 ?_
  rotate_left 1
  · (intro w hSw; (try dsimp only at hSw); go_simp; (try with_reducible rfl))
  change wpAnyX _ _ _ _ _ _ _ _ (Act.put _ (some 19) _) _
  try simp only [Act.put, List.setIfInBounds_toArray, List.set_cons_zero, List.set_cons_succ]
  refine wpAnyX_take (i := 8) (oi := _) (v := ?_) rfl (by kernel_rfl) (by kernel_rfl) (by kernel_rfl) (by kernel_rfl) (fun _ _ _ h => h) (Or.inl ⟨by rfl, ?_⟩) hS0 ?_
  rotate_left 1
  · (intro w hSw; (try dsimp only at hSw); go_simp; (try with_reducible rfl))
  change wpAnyX _ _ _ _ _ _ _ _ (Act.put _ (some 20) _) _
  try simp only [Act.put, List.setIfInBounds_toArray, List.set_cons_zero, List.set_cons_succ]
  refine wpAnyX_take (i := 9) (oi := _) (v := ?_) rfl (by kernel_rfl) (by kernel_rfl) (by kernel_rfl) (by kernel_rfl) (fun _ _ _ h => h) (Or.inl ⟨by rfl, ?_⟩) hS0 ?_
  rotate_left 1
  · (intro w hSw; (try dsimp only at hSw); go_simp; (try with_reducible rfl))
  change wpAnyX _ _ _ _ _ _ _ _ (Act.put _ (some 21) _) _
  try simp only [Act.put, List.setIfInBounds_toArray, List.set_cons_zero, List.set_cons_succ]
  refine wpAnyX_two (i := 6) (j := 12) (oi := _) (oj := _) rfl rfl (by kernel_rfl) (fun K hK => ?_) (fun K hK => ?_)
  · go_simp
    refine (HR1.out _).mono ?_
    rintro ee v ⟨rfl, rfl⟩
    refine hK.out _ _ (fun _ => ?_) (fun hS1 => ?_)
    · first | exact hS0 | exact ⟨kald (hS0.1), kald (hS0.2.1), kald (hS0.2.2)⟩ | exact ⟨kal (hS0.1), kal (hS0.2.1), kal (hS0.2.2)⟩ | exact ⟨kal p0, kal p1, kal p2⟩
    clear hK K
    have hS1 := hS1 (by decide)
    try simp only [Act.put, List.setIfInBounds_toArray, List.set_cons_zero, List.set_cons_succ]
    refine wpAnyX_two (i := 10) (j := 12) (oi := _) (oj := _) rfl rfl (by kernel_rfl) (fun K hK => ?_) (fun K hK => ?_)
    · go_simp
      refine (HR2.out _).mono ?_
      rintro ee v ⟨rfl, rfl⟩
      refine hK.out _ _ (fun _ => ?_) (fun hS2 => ?_)
      · first | exact hS1 | exact ⟨kald (hS1.1), kald (hS1.2.1), kald (hS1.2.2)⟩ | exact ⟨kal (hS1.1), kal (hS1.2.1), kal (hS1.2.2)⟩ | exact ⟨kal p0, kal p1, kal p2⟩
      clear hK K
      have hS2 := hS2 (by decide)
      try simp only [Act.put, List.setIfInBounds_toArray, List.set_cons_zero, List.set_cons_succ]
      refine wpAnyX_take (i := 11) (oi := _) (v := ?_) rfl (by kernel_rfl) (by kernel_rfl) (by kernel_rfl) (by kernel_rfl) (fun _ _ _ h => h) (Or.inl ⟨by rfl, ?_⟩) hS2 ?_
      rotate_left 1
      · (intro w hSw; (try dsimp only at hSw); go_simp; (try with_reducible rfl))
      change wpAnyX _ _ _ _ _ _ _ _ (Act.put _ (some 23) _) _
      try simp only [Act.put, List.setIfInBounds_toArray, List.set_cons_zero, List.set_cons_succ]
      refine wpAnyX_one (i := 12) (o := _) rfl (by kernel_rfl) (fun K hK => ?_)
      go_simp
      refine hK.out _ _ (fun _ => ?_) (fun hS3 => ?_)
      · first | exact hS2 | exact ⟨kald (hS2.1), kald (hS2.2.1), kald (hS2.2.2)⟩ | exact ⟨kal (hS2.1), kal (hS2.2.1), kal (hS2.2.2)⟩ | exact ⟨kal p0, kal p1, kal p2⟩
      clear hK K
      have hS3 := hS3 (by decide)
      try simp only [Act.put, List.setIfInBounds_toArray, List.set_cons_zero, List.set_cons_succ]
      refine wpAnyX_one (i := 13) (o := _) rfl (by kernel_rfl) (fun K hK => ?_)
      go_simp
      refine hK.out _ _ (fun _ => ?_) (fun hS4 => ?_)
      · first | exact hS3 | exact ⟨kald (hS3.1), kald (hS3.2.1), kald (hS3.2.2)⟩ | exact ⟨kal (hS3.1), kal (hS3.2.1), kal (hS3.2.2)⟩ | exact ⟨kal p0, kal p1, kal p2⟩
      clear hK K
      have hS4 := hS4 (by decide)
      try simp only [Act.put, List.setIfInBounds_toArray, List.set_cons_zero, List.set_cons_succ]
      refine wpAnyX_done (by kernel_rfl) ?_ _
      obtain ⟨w5, hw5⟩ : ∃ W, W = (w1.alloc (.cells #[.string x, .int .i64 v1, .int .i64 v2] 30)).drew := ⟨_, rfl⟩
      obtain ⟨b, hbn⟩ : ∃ b, b = w1.heap.size := ⟨_, rfl⟩
      have XF5 : Bx w5 b 30 #[.string x, .int .i64 v1, .int .i64 v2] := by rw [hw5]; exact (Bx.new hbn).drew
      have X05 : Bx w5 w.heap.size 30 #[.string ByteArray.empty, .int .i64 0, .int .i64 0] := by rw [hw5]; exact (X0.alloc _).drew
      have HB5 : Below w.heap.size w w5 := by rw [hw5]; exact (HB1.alloc (by omega) _).drew
      have k0 : w5.cell? ⟨g, o, none⟩ = some (.string x) := by rw [hw5]; exact kal p0
      have hbz : w.heap.size < b := by omega
      have hne2 : w.heap.size ≠ b := by omega
      rw [← hw5, ← hbn]
      clear hw5 hbn hS0 X0 HB1 hz p0 p1 p2 yp0 yp1 yp2
      have d0 := XF5.c 0 rfl
      have df := XF5.f 0
      go_upto_region 7 with (fail)
      have XF6 := XF5
      have X06 := X05
      have HB6 := HB5
      clear XF5 X05 HB5 d0 df k0
      have e0 := XF6.c 0 rfl
      have e1 := XF6.c 1 rfl
      have e2 := XF6.c 2 rfl
      go_wp2_with (go_at_call 18; refine (HV.out _).mono ?_)
      rintro ee w7 ⟨rfl, hb7⟩
      have XF7 := XF6.mono hb7
      have X07 := X06.mono hb7
      have HB7 := HB6.trans (hb7.mono HB6.size)
      clear e0 e1 e2 hb7 XF6 X06 HB6
      obtain ⟨w8, rfl⟩ : ∃ W, W = w7 := ⟨_, rfl⟩
      have XF8 := XF7
      have X08 := X07
      have HB8 := HB7
      clear XF7 X07 HB7
      have e0 := XF8.c 0 rfl
      have e1 := XF8.c 1 rfl
      have e2 := XF8.c 2 rfl
      have g0 := X08.c 0 rfl
      have g1 := X08.c 1 rfl
      have g2 := X08.c 2 rfl
      have gf := X08.f
      go_wp2_with (fail)
      obtain ⟨w9, hw9⟩ : ∃ W, W = ((w8.setCell ⟨w.heap.size, 0, none⟩ (.string (ByteArray.mk #[]))).setCell ⟨w.heap.size, 1, none⟩ (.int .i64 0)).setCell ⟨w.heap.size, 2, none⟩ (.int .i64 0) := ⟨_, rfl⟩
      have X9 : Bx w9 w.heap.size 30 #[.string (ByteArray.mk #[]), .int .i64 0, .int .i64 0] := by rw [hw9]; exact ((X08.set rfl).set rfl).set rfl
      have HB9 : Below w.heap.size w w9 := by rw [hw9]; exact ((HB8.setCell (p := ⟨w.heap.size, 0, none⟩) (Nat.le_refl _) _).setCell (p := ⟨w.heap.size, 1, none⟩) (Nat.le_refl _) _).setCell (p := ⟨w.heap.size, 2, none⟩) (Nat.le_refl _) _
      rw [← hw9]
      clear hw9 X08 HB8 g0 g1 g2 gf
      have r0 := X9.c 0 rfl
      have r1 := X9.c 1 rfl
      have r2 := X9.c 2 rfl
      refine bodyPost_ret (v := .tuple #[fmv (ByteArray.mk #[]) 0 0, .bool false]) (by first | (simp only [results, Tryd.results15]; go_simp; done) | (simp [results, Tryd.results15, go_sem, *]; done)) rfl ⟨rfl, HB9⟩
    · go_simp
      refine hK.out _ _ (fun _ => ?_) (fun hS2 => ?_)
      · first | exact hS1 | exact ⟨kald (hS1.1), kald (hS1.2.1), kald (hS1.2.2)⟩ | exact ⟨kal (hS1.1), kal (hS1.2.1), kal (hS1.2.2)⟩ | exact ⟨kal p0, kal p1, kal p2⟩
      clear hK K
      have hS2 := hS2 (by decide)
      try simp only [Act.put, List.setIfInBounds_toArray, List.set_cons_zero, List.set_cons_succ]
      refine wpAnyX_one (i := 10) (o := _) rfl (by kernel_rfl) (fun K hK => ?_)
      go_simp
      refine (HR2.out _).mono ?_
      rintro ee v ⟨rfl, rfl⟩
      refine hK.out _ _ (fun _ => ?_) (fun hS3 => ?_)
      · first | exact hS2 | exact ⟨kald (hS2.1), kald (hS2.2.1), kald (hS2.2.2)⟩ | exact ⟨kal (hS2.1), kal (hS2.2.1), kal (hS2.2.2)⟩ | exact ⟨kal p0, kal p1, kal p2⟩
      clear hK K
      have hS3 := hS3 (by decide)
      try simp only [Act.put, List.setIfInBounds_toArray, List.set_cons_zero, List.set_cons_succ]
      refine wpAnyX_take (i := 11) (oi := _) (v := ?_) rfl (by kernel_rfl) (by kernel_rfl) (by kernel_rfl) (by kernel_rfl) (fun _ _ _ h => h) (Or.inl ⟨by rfl, ?_⟩) hS3 ?_
      rotate_left 1
      · (intro w hSw; (try dsimp only at hSw); go_simp; (try with_reducible rfl))
      change wpAnyX _ _ _ _ _ _ _ _ (Act.put _ (some 23) _) _
      try simp only [Act.put, List.setIfInBounds_toArray, List.set_cons_zero, List.set_cons_succ]
      refine wpAnyX_one (i := 13) (o := _) rfl (by kernel_rfl) (fun K hK => ?_)
      go_simp
      refine hK.out _ _ (fun _ => ?_) (fun hS4 => ?_)
      · first | exact hS3 | exact ⟨kald (hS3.1), kald (hS3.2.1), kald (hS3.2.2)⟩ | exact ⟨kal (hS3.1), kal (hS3.2.1), kal (hS3.2.2)⟩ | exact ⟨kal p0, kal p1, kal p2⟩
      clear hK K
      have hS4 := hS4 (by decide)
      try simp only [Act.put, List.setIfInBounds_toArray, List.set_cons_zero, List.set_cons_succ]
      refine wpAnyX_done (by kernel_rfl) ?_ _
      obtain ⟨w5, hw5⟩ : ∃ W, W = (w1.alloc (.cells #[.string x, .int .i64 v1, .int .i64 v2] 30)).drew := ⟨_, rfl⟩
      obtain ⟨b, hbn⟩ : ∃ b, b = w1.heap.size := ⟨_, rfl⟩
      have XF5 : Bx w5 b 30 #[.string x, .int .i64 v1, .int .i64 v2] := by rw [hw5]; exact (Bx.new hbn).drew
      have X05 : Bx w5 w.heap.size 30 #[.string ByteArray.empty, .int .i64 0, .int .i64 0] := by rw [hw5]; exact (X0.alloc _).drew
      have HB5 : Below w.heap.size w w5 := by rw [hw5]; exact (HB1.alloc (by omega) _).drew
      have k0 : w5.cell? ⟨g, o, none⟩ = some (.string x) := by rw [hw5]; exact kal p0
      have hbz : w.heap.size < b := by omega
      have hne2 : w.heap.size ≠ b := by omega
      rw [← hw5, ← hbn]
      clear hw5 hbn hS0 X0 HB1 hz p0 p1 p2 yp0 yp1 yp2
      have d0 := XF5.c 0 rfl
      have df := XF5.f 0
      go_upto_region 7 with (fail)
      have XF6 := XF5
      have X06 := X05
      have HB6 := HB5
      clear XF5 X05 HB5 d0 df k0
      have e0 := XF6.c 0 rfl
      have e1 := XF6.c 1 rfl
      have e2 := XF6.c 2 rfl
      go_wp2_with (go_at_call 18; refine (HV.out _).mono ?_)
      rintro ee w7 ⟨rfl, hb7⟩
      have XF7 := XF6.mono hb7
      have X07 := X06.mono hb7
      have HB7 := HB6.trans (hb7.mono HB6.size)
      clear e0 e1 e2 hb7 XF6 X06 HB6
      obtain ⟨w8, rfl⟩ : ∃ W, W = w7 := ⟨_, rfl⟩
      have XF8 := XF7
      have X08 := X07
      have HB8 := HB7
      clear XF7 X07 HB7
      have e0 := XF8.c 0 rfl
      have e1 := XF8.c 1 rfl
      have e2 := XF8.c 2 rfl
      have g0 := X08.c 0 rfl
      have g1 := X08.c 1 rfl
      have g2 := X08.c 2 rfl
      have gf := X08.f
      go_wp2_with (fail)
      obtain ⟨w9, hw9⟩ : ∃ W, W = ((w8.setCell ⟨w.heap.size, 0, none⟩ (.string (ByteArray.mk #[]))).setCell ⟨w.heap.size, 1, none⟩ (.int .i64 0)).setCell ⟨w.heap.size, 2, none⟩ (.int .i64 0) := ⟨_, rfl⟩
      have X9 : Bx w9 w.heap.size 30 #[.string (ByteArray.mk #[]), .int .i64 0, .int .i64 0] := by rw [hw9]; exact ((X08.set rfl).set rfl).set rfl
      have HB9 : Below w.heap.size w w9 := by rw [hw9]; exact ((HB8.setCell (p := ⟨w.heap.size, 0, none⟩) (Nat.le_refl _) _).setCell (p := ⟨w.heap.size, 1, none⟩) (Nat.le_refl _) _).setCell (p := ⟨w.heap.size, 2, none⟩) (Nat.le_refl _) _
      rw [← hw9]
      clear hw9 X08 HB8 g0 g1 g2 gf
      have r0 := X9.c 0 rfl
      have r1 := X9.c 1 rfl
      have r2 := X9.c 2 rfl
      refine bodyPost_ret (v := .tuple #[fmv (ByteArray.mk #[]) 0 0, .bool false]) (by first | (simp only [results, Tryd.results15]; go_simp; done) | (simp [results, Tryd.results15, go_sem, *]; done)) rfl ⟨rfl, HB9⟩
  · go_simp
    refine hK.out _ _ (fun _ => ?_) (fun hS1 => ?_)
    · first | exact hS0 | exact ⟨kald (hS0.1), kald (hS0.2.1), kald (hS0.2.2)⟩ | exact ⟨kal (hS0.1), kal (hS0.2.1), kal (hS0.2.2)⟩ | exact ⟨kal p0, kal p1, kal p2⟩
    clear hK K
    have hS1 := hS1 (by decide)
    try simp only [Act.put, List.setIfInBounds_toArray, List.set_cons_zero, List.set_cons_succ]
    refine wpAnyX_one (i := 6) (o := _) rfl (by kernel_rfl) (fun K hK => ?_)
    go_simp
    refine (HR1.out _).mono ?_
    rintro ee v ⟨rfl, rfl⟩
    refine hK.out _ _ (fun _ => ?_) (fun hS2 => ?_)
    · first | exact hS1 | exact ⟨kald (hS1.1), kald (hS1.2.1), kald (hS1.2.2)⟩ | exact ⟨kal (hS1.1), kal (hS1.2.1), kal (hS1.2.2)⟩ | exact ⟨kal p0, kal p1, kal p2⟩
    clear hK K
    have hS2 := hS2 (by decide)
    try simp only [Act.put, List.setIfInBounds_toArray, List.set_cons_zero, List.set_cons_succ]
    refine wpAnyX_one (i := 10) (o := _) rfl (by kernel_rfl) (fun K hK => ?_)
    go_simp
    refine (HR2.out _).mono ?_
    rintro ee v ⟨rfl, rfl⟩
    refine hK.out _ _ (fun _ => ?_) (fun hS3 => ?_)
    · first | exact hS2 | exact ⟨kald (hS2.1), kald (hS2.2.1), kald (hS2.2.2)⟩ | exact ⟨kal (hS2.1), kal (hS2.2.1), kal (hS2.2.2)⟩ | exact ⟨kal p0, kal p1, kal p2⟩
    clear hK K
    have hS3 := hS3 (by decide)
    try simp only [Act.put, List.setIfInBounds_toArray, List.set_cons_zero, List.set_cons_succ]
    refine wpAnyX_take (i := 11) (oi := _) (v := ?_) rfl (by kernel_rfl) (by kernel_rfl) (by kernel_rfl) (by kernel_rfl) (fun _ _ _ h => h) (Or.inl ⟨by rfl, ?_⟩) hS3 ?_
    rotate_left 1
    · (intro w hSw; (try dsimp only at hSw); go_simp; (try with_reducible rfl))
    change wpAnyX _ _ _ _ _ _ _ _ (Act.put _ (some 23) _) _
    try simp only [Act.put, List.setIfInBounds_toArray, List.set_cons_zero, List.set_cons_succ]
    refine wpAnyX_one (i := 13) (o := _) rfl (by kernel_rfl) (fun K hK => ?_)
    go_simp
    refine hK.out _ _ (fun _ => ?_) (fun hS4 => ?_)
    · first | exact hS3 | exact ⟨kald (hS3.1), kald (hS3.2.1), kald (hS3.2.2)⟩ | exact ⟨kal (hS3.1), kal (hS3.2.1), kal (hS3.2.2)⟩ | exact ⟨kal p0, kal p1, kal p2⟩
    clear hK K
    have hS4 := hS4 (by decide)
    try simp only [Act.put, List.setIfInBounds_toArray, List.set_cons_zero, List.set_cons_succ]
    refine wpAnyX_done (by kernel_rfl) ?_ _
    obtain ⟨w5, hw5⟩ : ∃ W, W = (w1.alloc (.cells #[.string x, .int .i64 v1, .int .i64 v2] 30)).drew := ⟨_, rfl⟩
    obtain ⟨b, hbn⟩ : ∃ b, b = w1.heap.size := ⟨_, rfl⟩
    have XF5 : Bx w5 b 30 #[.string x, .int .i64 v1, .int .i64 v2] := by rw [hw5]; exact (Bx.new hbn).drew
    have X05 : Bx w5 w.heap.size 30 #[.string ByteArray.empty, .int .i64 0, .int .i64 0] := by rw [hw5]; exact (X0.alloc _).drew
    have HB5 : Below w.heap.size w w5 := by rw [hw5]; exact (HB1.alloc (by omega) _).drew
    have k0 : w5.cell? ⟨g, o, none⟩ = some (.string x) := by rw [hw5]; exact kal p0
    have hbz : w.heap.size < b := by omega
    have hne2 : w.heap.size ≠ b := by omega
    rw [← hw5, ← hbn]
    clear hw5 hbn hS0 X0 HB1 hz p0 p1 p2 yp0 yp1 yp2
    have d0 := XF5.c 0 rfl
    have df := XF5.f 0
    go_upto_region 7 with (fail)
    have XF6 := XF5
    have X06 := X05
    have HB6 := HB5
    clear XF5 X05 HB5 d0 df k0
    have e0 := XF6.c 0 rfl
    have e1 := XF6.c 1 rfl
    have e2 := XF6.c 2 rfl
    go_wp2_with (go_at_call 18; refine (HV.out _).mono ?_)
    rintro ee w7 ⟨rfl, hb7⟩
    have XF7 := XF6.mono hb7
    have X07 := X06.mono hb7
    have HB7 := HB6.trans (hb7.mono HB6.size)
    clear e0 e1 e2 hb7 XF6 X06 HB6
    obtain ⟨w8, rfl⟩ : ∃ W, W = w7 := ⟨_, rfl⟩
    have XF8 := XF7
    have X08 := X07
    have HB8 := HB7
    clear XF7 X07 HB7
    have e0 := XF8.c 0 rfl
    have e1 := XF8.c 1 rfl
    have e2 := XF8.c 2 rfl
    have g0 := X08.c 0 rfl
    have g1 := X08.c 1 rfl
    have g2 := X08.c 2 rfl
    have gf := X08.f
    go_wp2_with (fail)
    obtain ⟨w9, hw9⟩ : ∃ W, W = ((w8.setCell ⟨w.heap.size, 0, none⟩ (.string (ByteArray.mk #[]))).setCell ⟨w.heap.size, 1, none⟩ (.int .i64 0)).setCell ⟨w.heap.size, 2, none⟩ (.int .i64 0) := ⟨_, rfl⟩
    have X9 : Bx w9 w.heap.size 30 #[.string (ByteArray.mk #[]), .int .i64 0, .int .i64 0] := by rw [hw9]; exact ((X08.set rfl).set rfl).set rfl
    have HB9 : Below w.heap.size w w9 := by rw [hw9]; exact ((HB8.setCell (p := ⟨w.heap.size, 0, none⟩) (Nat.le_refl _) _).setCell (p := ⟨w.heap.size, 1, none⟩) (Nat.le_refl _) _).setCell (p := ⟨w.heap.size, 2, none⟩) (Nat.le_refl _) _
    rw [← hw9]
    clear hw9 X08 HB8 g0 g1 g2 gf
    have r0 := X9.c 0 rfl
    have r1 := X9.c 1 rfl
    have r2 := X9.c 2 rfl
    refine bodyPost_ret (v := .tuple #[fmv (ByteArray.mk #[]) 0 0, .bool false]) (by first | (simp only [results, Tryd.results15]; go_simp; done) | (simp [results, Tryd.results15, go_sem, *]; done)) rfl ⟨rfl, HB9⟩

end Go.Proofs.YtofclfgaekjonaaDoor
