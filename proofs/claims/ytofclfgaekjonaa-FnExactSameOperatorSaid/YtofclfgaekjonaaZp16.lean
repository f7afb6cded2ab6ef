/- Lo -/
import Derived.Test.YtofclfgaekjonaaZp15
namespace Go.Proofs.Ytofclfgaekjonaa
open Go.RowKit RM
set_option linter.unusedVariables false
set_option linter.unusedSimpArgs false
attribute [local irreducible] World.setCell

open GM

set_option maxRecDepth 100000 in
set_option maxHeartbeats 2000000 in
theorem lng {w : World} :
    Calls Try.prog 171 #[rg 1 0 0 0] w fun ee w' => ee = .returned (rg (-1) 0 0 0) ∧ Below w.heap.size w w' := by
  go_enter Try.func171, Try.ntmps171
  go_wp2_with (fail)
  refine bodyPost_ret (v := rg (-1) 0 0 0) (by first | (simp [results, Try.results171, go_sem, *]; done) | (simp (disch := (first | omega | (simp; done) | (simp; omega))) [results, Try.results171, go_sem, *]; done) | (simp only [results, Try.results171]; go_simp; done)) rfl ⟨rfl, ?_⟩
  (repeat' (first | (with_reducible exact Below.refl _ _) | (with_reducible assumption) | (with_reducible refine Below.alloc ?_ ?_ _) | (with_reducible refine Below.drew ?_) | (with_reducible refine below_drewN ?_ _) | (with_reducible refine Below.setCell ?_ ?_ _) | (with_reducible refine chain ?_ (by assumption) ?_) | omega | (simp; done) | (simp; omega)))

set_option maxRecDepth 100000 in
set_option maxHeartbeats 2000000 in
theorem lneg {w : World} :
    Calls Try.prog 126 #[dy 1 0 0 0 1] w fun ee w' => ee = .returned (dy (-1) 0 0 0 1) ∧ Below w.heap.size w w' := by
  go_enter Try.func126, Try.ntmps126
  go_upto_region 1 with (fail)
  obtain ⟨W, hW⟩ : ∃ W : World, W = (w.alloc (.cells #[.int .i64 1, .int .i64 0, .int .i64 0, .int .i64 0, .int .i64 1] 99)).alloc (.cells #[.int .i64 0, .int .i64 0, .int .i64 0, .int .i64 0, .int .i64 0] 99) := ⟨_, rfl⟩
  have hbW : Below w.heap.size w W := by rw [hW]; exact ((Below.refl _ _).alloc (Nat.le_refl _) _).alloc (by simp) _
  have cX : Bx W w.heap.size 99 #[.int .i64 1, .int .i64 0, .int .i64 0, .int .i64 0, .int .i64 1] := by rw [hW]; exact (Bx.new rfl).alloc _
  have zX : Bx W (w.heap.size + 1) 99 #[.int .i64 0, .int .i64 0, .int .i64 0, .int .i64 0, .int .i64 0] := by rw [hW]; exact Bx.new (by simp)
  have hzW : w.heap.size + 1 < W.heap.size := by rw [hW]; simp
  rw [← hW]
  clear hW
  have c0 := cX.c 0 rfl
  have c1 := cX.c 1 rfl
  have c2 := cX.c 2 rfl
  have c3 := cX.c 3 rfl
  have c4 := cX.c 4 rfl
  have yc0 : W.drew.cell? ⟨w.heap.size, 0, none⟩ = some (.int .i64 1) := c0
  have yc1 : W.drew.cell? ⟨w.heap.size, 1, none⟩ = some (.int .i64 0) := c1
  have yc2 : W.drew.cell? ⟨w.heap.size, 2, none⟩ = some (.int .i64 0) := c2
  have yc3 : W.drew.cell? ⟨w.heap.size, 3, none⟩ = some (.int .i64 0) := c3
  have yc4 : W.drew.cell? ⟨w.heap.size, 4, none⟩ = some (.int .i64 1) := c4
  refine wp_region_x (fun w' => w'.cell? ⟨w.heap.size, 0, none⟩ = some (.int .i64 1) ∧ w'.cell? ⟨w.heap.size, 1, none⟩ = some (.int .i64 0) ∧ w'.cell? ⟨w.heap.size, 2, none⟩ = some (.int .i64 0) ∧ w'.cell? ⟨w.heap.size, 3, none⟩ = some (.int .i64 0) ∧ w'.cell? ⟨w.heap.size, 4, none⟩ = some (.int .i64 1)) 6 (by kernel_rfl) ⟨yc0, yc1, yc2, yc3, yc4⟩ (fun hS0 => ?_)
  refine wpAnyX_take (i := 0) (oi := _) (v := ?_) rfl (by kernel_rfl) (by kernel_rfl) (by kernel_rfl) (by kernel_rfl) (fun _ _ _ h => h) (Or.inl ⟨by rfl, ?_⟩) hS0 ?_
  rotate_left 1
  · (intro w hSw; (try dsimp only at hSw); go_simp; (try with_reducible rfl))
  try simp only [Act.put, List.setIfInBounds_toArray, List.set_cons_zero, List.set_cons_succ]
  refine wpAnyX_take (i := 1) (oi := _) (v := ?_) rfl (by kernel_rfl) (by kernel_rfl) (by kernel_rfl) (by kernel_rfl) (fun _ _ _ h => h) (Or.inl ⟨by rfl, ?_⟩) hS0 ?_
  rotate_left 1
  · (intro w hSw; (try dsimp only at hSw); go_simp; (try with_reducible rfl))
  try simp only [Act.put, List.setIfInBounds_toArray, List.set_cons_zero, List.set_cons_succ]
  refine wpAnyX_take (i := 3) (oi := _) (v := ?_) rfl (by kernel_rfl) (by kernel_rfl) (by kernel_rfl) (by kernel_rfl) (fun _ _ _ h => h) (Or.inl ⟨by rfl, ?_⟩) hS0 ?_
  rotate_left 1
  · (intro w hSw; (try dsimp only at hSw); go_simp; (try with_reducible rfl))
  try simp only [Act.put, List.setIfInBounds_toArray, List.set_cons_zero, List.set_cons_succ]
  refine wpAnyX_take (i := 4) (oi := _) (v := ?_) rfl (by kernel_rfl) (by kernel_rfl) (by kernel_rfl) (by kernel_rfl) (fun _ _ _ h => h) (Or.inl ⟨by rfl, ?_⟩) hS0 ?_
  rotate_left 1
  · (intro w hSw; (try dsimp only at hSw); go_simp; (try with_reducible rfl))
  try simp only [Act.put, List.setIfInBounds_toArray, List.set_cons_zero, List.set_cons_succ]
  refine wpAnyX_one (i := 2) (o := _) rfl (by kernel_rfl) (fun K hK => ?_)
  go_simp
  refine lng.mono ?_
  rintro ee w8 ⟨rfl, hb80⟩
  have hb8 := undrewK hb80
  have hz8 := hb8.size
  refine hK.out _ _ (fun _ => ?_) (fun hS1 => ?_)
  · exact ⟨kc hb80 (hS0.1), kc hb80 (hS0.2.1), kc hb80 (hS0.2.2.1), kc hb80 (hS0.2.2.2.1), kc hb80 (hS0.2.2.2.2)⟩
  clear hK K
  have hS1 := hS1 (by decide)
  try simp only [Act.put, List.setIfInBounds_toArray, List.set_cons_zero, List.set_cons_succ]
  refine wpAnyX_take (i := 5) (oi := _) (v := ?_) rfl (by kernel_rfl) (by kernel_rfl) (by kernel_rfl) (by kernel_rfl) (fun _ _ _ h => h) (Or.inl ⟨by rfl, ?_⟩) hS1 ?_
  rotate_left 1
  · (intro w hSw; (try dsimp only at hSw); go_simp; (try with_reducible rfl))
  try simp only [Act.put, List.setIfInBounds_toArray, List.set_cons_zero, List.set_cons_succ]
  refine wpAnyX_one (i := 6) (o := _) rfl (by kernel_rfl) (fun K hK => ?_)
  have zX8 := zX.mono hb8
  have e0 := zX8.c 0 rfl
  have e1 := zX8.c 1 rfl
  have e2 := zX8.c 2 rfl
  have e3 := zX8.c 3 rfl
  have e4 := zX8.c 4 rfl
  have ef := zX8.f
  have el := zX8.lt
  go_simp
  refine hK.out _ _ (fun h => absurd rfl h) (fun _ => ?_)
  clear hK K
  try simp only [Act.put, List.setIfInBounds_toArray, List.set_cons_zero, List.set_cons_succ]
  refine wpAnyX_done (by kernel_rfl) ?_ _
  go_wp2_with (fail)
  refine bodyPost_ret (v := dy (-1) 0 0 0 1) (by first | (simp [results, Try.results126, go_sem, *]; done) | (simp (disch := (first | omega | (simp; done) | (simp; omega))) [results, Try.results126, go_sem, *]; done) | (simp only [results, Try.results126]; go_simp; done)) rfl ⟨rfl, ?_⟩
  have hb9 := chain hbW hb8 hbW.size
  (repeat' (first | (with_reducible exact Below.refl _ _) | (with_reducible assumption) | (with_reducible refine Below.alloc ?_ ?_ _) | (with_reducible refine Below.drew ?_) | (with_reducible refine below_drewN ?_ _) | (with_reducible refine Below.setCell ?_ ?_ _) | (with_reducible refine chain ?_ (by assumption) ?_) | omega | (simp; done) | (simp; omega)))

set_option maxRecDepth 100000 in
set_option maxHeartbeats 4000000 in
theorem lone_1 {w : World} :
    Calls Try.prog 182 #[.int .i64 1] w fun ee w' => ∃ g : Nat, ee = .returned (.slice (some ⟨g, 0, none⟩) 4 4) ∧ Bk w' g 99 [⟨1, 0, 0, 0, 1⟩, ⟨1, 0, 0, 0, 1⟩, ⟨1, 0, 0, 0, 1⟩, ⟨-1, 0, 0, 0, 1⟩] ∧ w.heap.size ≤ g ∧ Below w.heap.size w w' := by
  go_enter Try.func182, Try.ntmps182
  go_wp2_with (fail)
  refine lpw0.mono ?_
  rintro ee w1 ⟨rfl, hb1⟩
  have hz1 := hb1.size
  go_upto_region 5 with (fail)
  obtain ⟨W, hW⟩ : ∃ W : World, W = ((w1.alloc (.cells #[.int .i64 (omP 0).a, .int .i64 (omP 0).b, .int .i64 (omP 0).c, .int .i64 (omP 0).d, .int .i64 (omP 0).e] 99)).alloc (.cells #[.int .i64 0, .int .i64 0, .int .i64 0, .int .i64 0, .int .i64 0] 99)).alloc (.cells #[.int .i64 1, .int .i64 0, .int .i64 0, .int .i64 0, .int .i64 1] 99) := ⟨_, rfl⟩
  have hbW : Below w.heap.size w W := by rw [hW]; exact ((hb1.alloc hz1 _).alloc (by simp; omega) _).alloc (by simp; omega) _
  have oX : Bx W w1.heap.size 99 #[.int .i64 (omP 0).a, .int .i64 (omP 0).b, .int .i64 (omP 0).c, .int .i64 (omP 0).d, .int .i64 (omP 0).e] := by rw [hW]; exact ((Bx.new rfl).alloc _).alloc _
  have zX : Bx W (w1.heap.size + 1) 99 #[.int .i64 0, .int .i64 0, .int .i64 0, .int .i64 0, .int .i64 0] := by rw [hW]; exact (Bx.new (by simp)).alloc _
  have hX : Bx W (w1.heap.size + 1 + 1) 99 #[.int .i64 1, .int .i64 0, .int .i64 0, .int .i64 0, .int .i64 1] := by rw [hW]; exact Bx.new (by simp)
  have hzW : w1.heap.size + 1 + 1 < W.heap.size := by rw [hW]; simp
  rw [← hW]
  clear hW
  have o0 := oX.c 0 rfl
  have o1 := oX.c 1 rfl
  have o2 := oX.c 2 rfl
  have o3 := oX.c 3 rfl
  have o4 := oX.c 4 rfl
  have z0 := zX.c 0 rfl
  have z1 := zX.c 1 rfl
  have z2 := zX.c 2 rfl
  have z3 := zX.c 3 rfl
  have z4 := zX.c 4 rfl
  have h0 := hX.c 0 rfl
  have h1 := hX.c 1 rfl
  have h2 := hX.c 2 rfl
  have h3 := hX.c 3 rfl
  have h4 := hX.c 4 rfl
  have yo0 : W.drew.cell? ⟨w1.heap.size, 0, none⟩ = some (.int .i64 (omP 0).a) := o0
  have yo1 : W.drew.cell? ⟨w1.heap.size, 1, none⟩ = some (.int .i64 (omP 0).b) := o1
  have yo2 : W.drew.cell? ⟨w1.heap.size, 2, none⟩ = some (.int .i64 (omP 0).c) := o2
  have yo3 : W.drew.cell? ⟨w1.heap.size, 3, none⟩ = some (.int .i64 (omP 0).d) := o3
  have yo4 : W.drew.cell? ⟨w1.heap.size, 4, none⟩ = some (.int .i64 (omP 0).e) := o4
  have yz0 : W.drew.cell? ⟨w1.heap.size + 1, 0, none⟩ = some (.int .i64 0) := z0
  have yz1 : W.drew.cell? ⟨w1.heap.size + 1, 1, none⟩ = some (.int .i64 0) := z1
  have yz2 : W.drew.cell? ⟨w1.heap.size + 1, 2, none⟩ = some (.int .i64 0) := z2
  have yz3 : W.drew.cell? ⟨w1.heap.size + 1, 3, none⟩ = some (.int .i64 0) := z3
  have yz4 : W.drew.cell? ⟨w1.heap.size + 1, 4, none⟩ = some (.int .i64 0) := z4
  have yh0 : W.drew.cell? ⟨w1.heap.size + 1 + 1, 0, none⟩ = some (.int .i64 1) := h0
  have yh1 : W.drew.cell? ⟨w1.heap.size + 1 + 1, 1, none⟩ = some (.int .i64 0) := h1
  have yh2 : W.drew.cell? ⟨w1.heap.size + 1 + 1, 2, none⟩ = some (.int .i64 0) := h2
  have yh3 : W.drew.cell? ⟨w1.heap.size + 1 + 1, 3, none⟩ = some (.int .i64 0) := h3
  have yh4 : W.drew.cell? ⟨w1.heap.size + 1 + 1, 4, none⟩ = some (.int .i64 1) := h4
  refine wp_region_x (fun w' => w'.cell? ⟨w1.heap.size, 0, none⟩ = some (.int .i64 (omP 0).a) ∧ w'.cell? ⟨w1.heap.size, 1, none⟩ = some (.int .i64 (omP 0).b) ∧ w'.cell? ⟨w1.heap.size, 2, none⟩ = some (.int .i64 (omP 0).c) ∧ w'.cell? ⟨w1.heap.size, 3, none⟩ = some (.int .i64 (omP 0).d) ∧ w'.cell? ⟨w1.heap.size, 4, none⟩ = some (.int .i64 (omP 0).e) ∧ w'.cell? ⟨w1.heap.size + 1, 0, none⟩ = some (.int .i64 0) ∧ w'.cell? ⟨w1.heap.size + 1, 1, none⟩ = some (.int .i64 0) ∧ w'.cell? ⟨w1.heap.size + 1, 2, none⟩ = some (.int .i64 0) ∧ w'.cell? ⟨w1.heap.size + 1, 3, none⟩ = some (.int .i64 0) ∧ w'.cell? ⟨w1.heap.size + 1, 4, none⟩ = some (.int .i64 0) ∧ w'.cell? ⟨w1.heap.size + 1 + 1, 0, none⟩ = some (.int .i64 1) ∧ w'.cell? ⟨w1.heap.size + 1 + 1, 1, none⟩ = some (.int .i64 0) ∧ w'.cell? ⟨w1.heap.size + 1 + 1, 2, none⟩ = some (.int .i64 0) ∧ w'.cell? ⟨w1.heap.size + 1 + 1, 3, none⟩ = some (.int .i64 0) ∧ w'.cell? ⟨w1.heap.size + 1 + 1, 4, none⟩ = some (.int .i64 1)) 1000 (by kernel_rfl) ⟨yo0, yo1, yo2, yo3, yo4, yz0, yz1, yz2, yz3, yz4, yh0, yh1, yh2, yh3, yh4⟩ (fun hS0 => ?_)
  refine wpAnyX_take (i := 0) (oi := _) (v := ?_) rfl (by kernel_rfl) (by kernel_rfl) (by kernel_rfl) (by kernel_rfl) (fun _ _ _ h => h) (Or.inl ⟨by rfl, ?_⟩) hS0 ?_
  rotate_left 1
  · (intro w hSw; (try dsimp only at hSw); go_simp; (try with_reducible rfl))
  try simp only [Act.put, List.setIfInBounds_toArray, List.set_cons_zero, List.set_cons_succ]
  refine wpAnyX_take (i := 1) (oi := _) (v := ?_) rfl (by kernel_rfl) (by kernel_rfl) (by kernel_rfl) (by kernel_rfl) (fun _ _ _ h => h) (Or.inl ⟨by rfl, ?_⟩) hS0 ?_
  rotate_left 1
  · (intro w hSw; (try dsimp only at hSw); go_simp; (try with_reducible rfl))
  try simp only [Act.put, List.setIfInBounds_toArray, List.set_cons_zero, List.set_cons_succ]
  refine wpAnyX_take (i := 2) (oi := _) (v := ?_) rfl (by kernel_rfl) (by kernel_rfl) (by kernel_rfl) (by kernel_rfl) (fun _ _ _ h => h) (Or.inl ⟨by rfl, ?_⟩) hS0 ?_
  rotate_left 1
  · (intro w hSw; (try dsimp only at hSw); go_simp; (try with_reducible rfl))
  try simp only [Act.put, List.setIfInBounds_toArray, List.set_cons_zero, List.set_cons_succ]
  refine wpAnyX_take (i := 3) (oi := _) (v := ?_) rfl (by kernel_rfl) (by kernel_rfl) (by kernel_rfl) (by kernel_rfl) (fun _ _ _ h => h) (Or.inl ⟨by rfl, ?_⟩) hS0 ?_
  rotate_left 1
  · (intro w hSw; (try dsimp only at hSw); go_simp; (try with_reducible rfl))
  try simp only [Act.put, List.setIfInBounds_toArray, List.set_cons_zero, List.set_cons_succ]
  refine wpAnyX_one (i := 4) (o := _) rfl (by kernel_rfl) (fun K hK => ?_)
  go_simp
  refine (lneg).mono ?_
  rintro ee w8 ⟨rfl, hbw80⟩
  have hbw8 := undrewK hbw80
  have hzw8 := hbw8.size
  refine hK.out _ _ (fun _ => ?_) (fun hS1 => ?_)
  · exact ⟨kc hbw80 (hS0.1), kc hbw80 (hS0.2.1), kc hbw80 (hS0.2.2.1), kc hbw80 (hS0.2.2.2.1), kc hbw80 (hS0.2.2.2.2.1), kc hbw80 (hS0.2.2.2.2.2.1), kc hbw80 (hS0.2.2.2.2.2.2.1), kc hbw80 (hS0.2.2.2.2.2.2.2.1), kc hbw80 (hS0.2.2.2.2.2.2.2.2.1), kc hbw80 (hS0.2.2.2.2.2.2.2.2.2.1), kc hbw80 (hS0.2.2.2.2.2.2.2.2.2.2.1), kc hbw80 (hS0.2.2.2.2.2.2.2.2.2.2.2.1), kc hbw80 (hS0.2.2.2.2.2.2.2.2.2.2.2.2.1), kc hbw80 (hS0.2.2.2.2.2.2.2.2.2.2.2.2.2.1), kc hbw80 (hS0.2.2.2.2.2.2.2.2.2.2.2.2.2.2)⟩
  clear hK K
  have hS1 := hS1 (by decide)
  try simp only [Act.put, List.setIfInBounds_toArray, List.set_cons_zero, List.set_cons_succ]
  refine wpAnyX_one (i := 5) (o := _) rfl (by kernel_rfl) (fun K hK => ?_)
  go_simp
  refine hK.out _ _ (fun _ => ?_) (fun hS2 => ?_)
  · first | exact ⟨kal (hS1.1), kal (hS1.2.1), kal (hS1.2.2.1), kal (hS1.2.2.2.1), kal (hS1.2.2.2.2.1), kal (hS1.2.2.2.2.2.1), kal (hS1.2.2.2.2.2.2.1), kal (hS1.2.2.2.2.2.2.2.1), kal (hS1.2.2.2.2.2.2.2.2.1), kal (hS1.2.2.2.2.2.2.2.2.2.1), kal (hS1.2.2.2.2.2.2.2.2.2.2.1), kal (hS1.2.2.2.2.2.2.2.2.2.2.2.1), kal (hS1.2.2.2.2.2.2.2.2.2.2.2.2.1), kal (hS1.2.2.2.2.2.2.2.2.2.2.2.2.2.1), kal (hS1.2.2.2.2.2.2.2.2.2.2.2.2.2.2)⟩ | exact ⟨kald (hS1.1), kald (hS1.2.1), kald (hS1.2.2.1), kald (hS1.2.2.2.1), kald (hS1.2.2.2.2.1), kald (hS1.2.2.2.2.2.1), kald (hS1.2.2.2.2.2.2.1), kald (hS1.2.2.2.2.2.2.2.1), kald (hS1.2.2.2.2.2.2.2.2.1), kald (hS1.2.2.2.2.2.2.2.2.2.1), kald (hS1.2.2.2.2.2.2.2.2.2.2.1), kald (hS1.2.2.2.2.2.2.2.2.2.2.2.1), kald (hS1.2.2.2.2.2.2.2.2.2.2.2.2.1), kald (hS1.2.2.2.2.2.2.2.2.2.2.2.2.2.1), kald (hS1.2.2.2.2.2.2.2.2.2.2.2.2.2.2)⟩
  clear hK K
  have hS2 := hS2 (by decide)
  try simp only [Act.put, List.setIfInBounds_toArray, List.set_cons_zero, List.set_cons_succ]
  refine wpAnyX_take (i := 6) (oi := _) (v := ?_) rfl (by kernel_rfl) (by kernel_rfl) (by kernel_rfl) (by kernel_rfl) (fun _ _ _ h => h) (Or.inl ⟨by rfl, ?_⟩) hS2 ?_
  rotate_left 1
  · (intro w hSw; (try dsimp only at hSw); go_simp; (try with_reducible rfl))
  change wpAnyX _ _ _ _ _ _ _ _ (Act.put _ (some 2) _) _
  try simp only [Act.put, List.setIfInBounds_toArray, List.set_cons_zero, List.set_cons_succ]
  refine wpAnyX_done (by kernel_rfl) ?_ _
  go_wp2_with fail
  go_ret
  have chbw8 := chain hbW hbw8 hbW.size
  refine ⟨w8.heap.size, rfl, ?_, by omega, ?_⟩
  · show Bx _ _ _ _
    exact Bx.new rfl
  · (repeat' (first | (with_reducible exact Below.refl _ _) | (with_reducible assumption) | (with_reducible refine Below.alloc ?_ ?_ _) | (with_reducible refine Below.drew ?_) | (with_reducible refine below_drewN ?_ _) | (with_reducible refine Below.setCell ?_ ?_ _) | (with_reducible refine chain ?_ (by assumption) ?_) | omega | (simp; done) | (simp; omega)))

set_option maxRecDepth 100000 in
set_option maxHeartbeats 4000000 in
theorem lone_2 {w : World} :
    Calls Try.prog 182 #[.int .i64 2] w fun ee w' => ∃ g : Nat, ee = .returned (.slice (some ⟨g, 0, none⟩) 4 4) ∧ Bk w' g 99 [z5, omP 0, omP 0, z5] ∧ w.heap.size ≤ g ∧ Below w.heap.size w w' := by
  go_enter Try.func182, Try.ntmps182
  go_wp2_with (fail)
  refine lpw0.mono ?_
  rintro ee w1 ⟨rfl, hb1⟩
  have hz1 := hb1.size
  go_wp2_with (fail)
  go_ret
  refine ⟨w1.heap.size + 1 + 1 + 1, rfl, ?_, by omega, ?_⟩
  · show Bx _ _ _ _
    exact Bx.new (by simp)
  · (repeat' (first | (with_reducible exact Below.refl _ _) | (with_reducible assumption) | (with_reducible refine Below.alloc ?_ ?_ _) | (with_reducible refine Below.drew ?_) | (with_reducible refine below_drewN ?_ _) | (with_reducible refine Below.setCell ?_ ?_ _) | (with_reducible refine chain ?_ (by assumption) ?_) | omega | (simp; done) | (simp; omega)))

set_option maxRecDepth 100000 in
set_option maxHeartbeats 4000000 in
theorem lone_3 {w : World} :
    Calls Try.prog 182 #[.int .i64 3] w fun ee w' => ∃ g : Nat, ee = .returned (.slice (some ⟨g, 0, none⟩) 4 4) ∧ Bk w' g 99 [z5, omP 6, omP 2, z5] ∧ w.heap.size ≤ g ∧ Below w.heap.size w w' := by
  go_enter Try.func182, Try.ntmps182
  go_wp2_with (fail)
  refine lpw0.mono ?_
  rintro ee w1 ⟨rfl, hb1⟩
  have hz1 := hb1.size
  go_upto_region 9 with (fail)
  obtain ⟨W, hW⟩ : ∃ W : World, W = ((w1.alloc (.cells #[.int .i64 (omP 0).a, .int .i64 (omP 0).b, .int .i64 (omP 0).c, .int .i64 (omP 0).d, .int .i64 (omP 0).e] 99)).alloc (.cells #[.int .i64 0, .int .i64 0, .int .i64 0, .int .i64 0, .int .i64 0] 99)).alloc (.cells #[.int .i64 1, .int .i64 0, .int .i64 0, .int .i64 0, .int .i64 1] 99) := ⟨_, rfl⟩
  have hbW : Below w.heap.size w W := by rw [hW]; exact ((hb1.alloc hz1 _).alloc (by simp; omega) _).alloc (by simp; omega) _
  have oX : Bx W w1.heap.size 99 #[.int .i64 (omP 0).a, .int .i64 (omP 0).b, .int .i64 (omP 0).c, .int .i64 (omP 0).d, .int .i64 (omP 0).e] := by rw [hW]; exact ((Bx.new rfl).alloc _).alloc _
  have zX : Bx W (w1.heap.size + 1) 99 #[.int .i64 0, .int .i64 0, .int .i64 0, .int .i64 0, .int .i64 0] := by rw [hW]; exact (Bx.new (by simp)).alloc _
  have hX : Bx W (w1.heap.size + 1 + 1) 99 #[.int .i64 1, .int .i64 0, .int .i64 0, .int .i64 0, .int .i64 1] := by rw [hW]; exact Bx.new (by simp)
  have hzW : w1.heap.size + 1 + 1 < W.heap.size := by rw [hW]; simp
  rw [← hW]
  clear hW
  have o0 := oX.c 0 rfl
  have o1 := oX.c 1 rfl
  have o2 := oX.c 2 rfl
  have o3 := oX.c 3 rfl
  have o4 := oX.c 4 rfl
  have z0 := zX.c 0 rfl
  have z1 := zX.c 1 rfl
  have z2 := zX.c 2 rfl
  have z3 := zX.c 3 rfl
  have z4 := zX.c 4 rfl
  have h0 := hX.c 0 rfl
  have h1 := hX.c 1 rfl
  have h2 := hX.c 2 rfl
  have h3 := hX.c 3 rfl
  have h4 := hX.c 4 rfl
  have yo0 : W.drew.cell? ⟨w1.heap.size, 0, none⟩ = some (.int .i64 (omP 0).a) := o0
  have yo1 : W.drew.cell? ⟨w1.heap.size, 1, none⟩ = some (.int .i64 (omP 0).b) := o1
  have yo2 : W.drew.cell? ⟨w1.heap.size, 2, none⟩ = some (.int .i64 (omP 0).c) := o2
  have yo3 : W.drew.cell? ⟨w1.heap.size, 3, none⟩ = some (.int .i64 (omP 0).d) := o3
  have yo4 : W.drew.cell? ⟨w1.heap.size, 4, none⟩ = some (.int .i64 (omP 0).e) := o4
  have yz0 : W.drew.cell? ⟨w1.heap.size + 1, 0, none⟩ = some (.int .i64 0) := z0
  have yz1 : W.drew.cell? ⟨w1.heap.size + 1, 1, none⟩ = some (.int .i64 0) := z1
  have yz2 : W.drew.cell? ⟨w1.heap.size + 1, 2, none⟩ = some (.int .i64 0) := z2
  have yz3 : W.drew.cell? ⟨w1.heap.size + 1, 3, none⟩ = some (.int .i64 0) := z3
  have yz4 : W.drew.cell? ⟨w1.heap.size + 1, 4, none⟩ = some (.int .i64 0) := z4
  have yh0 : W.drew.cell? ⟨w1.heap.size + 1 + 1, 0, none⟩ = some (.int .i64 1) := h0
  have yh1 : W.drew.cell? ⟨w1.heap.size + 1 + 1, 1, none⟩ = some (.int .i64 0) := h1
  have yh2 : W.drew.cell? ⟨w1.heap.size + 1 + 1, 2, none⟩ = some (.int .i64 0) := h2
  have yh3 : W.drew.cell? ⟨w1.heap.size + 1 + 1, 3, none⟩ = some (.int .i64 0) := h3
  have yh4 : W.drew.cell? ⟨w1.heap.size + 1 + 1, 4, none⟩ = some (.int .i64 1) := h4
  refine wp_region_x (fun w' => w'.cell? ⟨w1.heap.size, 0, none⟩ = some (.int .i64 (omP 0).a) ∧ w'.cell? ⟨w1.heap.size, 1, none⟩ = some (.int .i64 (omP 0).b) ∧ w'.cell? ⟨w1.heap.size, 2, none⟩ = some (.int .i64 (omP 0).c) ∧ w'.cell? ⟨w1.heap.size, 3, none⟩ = some (.int .i64 (omP 0).d) ∧ w'.cell? ⟨w1.heap.size, 4, none⟩ = some (.int .i64 (omP 0).e) ∧ w'.cell? ⟨w1.heap.size + 1, 0, none⟩ = some (.int .i64 0) ∧ w'.cell? ⟨w1.heap.size + 1, 1, none⟩ = some (.int .i64 0) ∧ w'.cell? ⟨w1.heap.size + 1, 2, none⟩ = some (.int .i64 0) ∧ w'.cell? ⟨w1.heap.size + 1, 3, none⟩ = some (.int .i64 0) ∧ w'.cell? ⟨w1.heap.size + 1, 4, none⟩ = some (.int .i64 0) ∧ w'.cell? ⟨w1.heap.size + 1 + 1, 0, none⟩ = some (.int .i64 1) ∧ w'.cell? ⟨w1.heap.size + 1 + 1, 1, none⟩ = some (.int .i64 0) ∧ w'.cell? ⟨w1.heap.size + 1 + 1, 2, none⟩ = some (.int .i64 0) ∧ w'.cell? ⟨w1.heap.size + 1 + 1, 3, none⟩ = some (.int .i64 0) ∧ w'.cell? ⟨w1.heap.size + 1 + 1, 4, none⟩ = some (.int .i64 1)) 1000 (by kernel_rfl) ⟨yo0, yo1, yo2, yo3, yo4, yz0, yz1, yz2, yz3, yz4, yh0, yh1, yh2, yh3, yh4⟩ (fun hS0 => ?_)
  refine wpAnyX_take (i := 0) (oi := _) (v := ?_) rfl (by kernel_rfl) (by kernel_rfl) (by kernel_rfl) (by kernel_rfl) (fun _ _ _ h => h) (Or.inl ⟨by rfl, ?_⟩) hS0 ?_
  rotate_left 1
  · (intro w hSw; (try dsimp only at hSw); go_simp; (try with_reducible rfl))
  try simp only [Act.put, List.setIfInBounds_toArray, List.set_cons_zero, List.set_cons_succ]
  refine wpAnyX_take (i := 3) (oi := _) (v := ?_) rfl (by kernel_rfl) (by kernel_rfl) (by kernel_rfl) (by kernel_rfl) (fun _ _ _ h => h) (Or.inl ⟨by rfl, ?_⟩) hS0 ?_
  rotate_left 1
  · (intro w hSw; (try dsimp only at hSw); go_simp; (try with_reducible rfl))
  try simp only [Act.put, List.setIfInBounds_toArray, List.set_cons_zero, List.set_cons_succ]
  refine wpAnyX_one (i := 1) (o := _) rfl (by kernel_rfl) (fun K hK => ?_)
  go_simp
  refine (lpw6).mono ?_
  rintro ee w8 ⟨rfl, hbw80⟩
  have hbw8 := undrewK hbw80
  have hzw8 := hbw8.size
  refine hK.out _ _ (fun _ => ?_) (fun hS1 => ?_)
  · exact ⟨kc hbw80 (hS0.1), kc hbw80 (hS0.2.1), kc hbw80 (hS0.2.2.1), kc hbw80 (hS0.2.2.2.1), kc hbw80 (hS0.2.2.2.2.1), kc hbw80 (hS0.2.2.2.2.2.1), kc hbw80 (hS0.2.2.2.2.2.2.1), kc hbw80 (hS0.2.2.2.2.2.2.2.1), kc hbw80 (hS0.2.2.2.2.2.2.2.2.1), kc hbw80 (hS0.2.2.2.2.2.2.2.2.2.1), kc hbw80 (hS0.2.2.2.2.2.2.2.2.2.2.1), kc hbw80 (hS0.2.2.2.2.2.2.2.2.2.2.2.1), kc hbw80 (hS0.2.2.2.2.2.2.2.2.2.2.2.2.1), kc hbw80 (hS0.2.2.2.2.2.2.2.2.2.2.2.2.2.1), kc hbw80 (hS0.2.2.2.2.2.2.2.2.2.2.2.2.2.2)⟩
  clear hK K
  have hS1 := hS1 (by decide)
  try simp only [Act.put, List.setIfInBounds_toArray, List.set_cons_zero, List.set_cons_succ]
  refine wpAnyX_one (i := 2) (o := _) rfl (by kernel_rfl) (fun K hK => ?_)
  go_simp
  refine (lpw2).mono ?_
  rintro ee w9 ⟨rfl, hbw9⟩
  have hzw9 := hbw9.size
  refine hK.out _ _ (fun _ => ?_) (fun hS2 => ?_)
  · exact ⟨kc hbw9 (hS1.1), kc hbw9 (hS1.2.1), kc hbw9 (hS1.2.2.1), kc hbw9 (hS1.2.2.2.1), kc hbw9 (hS1.2.2.2.2.1), kc hbw9 (hS1.2.2.2.2.2.1), kc hbw9 (hS1.2.2.2.2.2.2.1), kc hbw9 (hS1.2.2.2.2.2.2.2.1), kc hbw9 (hS1.2.2.2.2.2.2.2.2.1), kc hbw9 (hS1.2.2.2.2.2.2.2.2.2.1), kc hbw9 (hS1.2.2.2.2.2.2.2.2.2.2.1), kc hbw9 (hS1.2.2.2.2.2.2.2.2.2.2.2.1), kc hbw9 (hS1.2.2.2.2.2.2.2.2.2.2.2.2.1), kc hbw9 (hS1.2.2.2.2.2.2.2.2.2.2.2.2.2.1), kc hbw9 (hS1.2.2.2.2.2.2.2.2.2.2.2.2.2.2)⟩
  clear hK K
  have hS2 := hS2 (by decide)
  try simp only [Act.put, List.setIfInBounds_toArray, List.set_cons_zero, List.set_cons_succ]
  refine wpAnyX_one (i := 4) (o := _) rfl (by kernel_rfl) (fun K hK => ?_)
  go_simp
  refine hK.out _ _ (fun _ => ?_) (fun hS3 => ?_)
  · first | exact ⟨kal (hS2.1), kal (hS2.2.1), kal (hS2.2.2.1), kal (hS2.2.2.2.1), kal (hS2.2.2.2.2.1), kal (hS2.2.2.2.2.2.1), kal (hS2.2.2.2.2.2.2.1), kal (hS2.2.2.2.2.2.2.2.1), kal (hS2.2.2.2.2.2.2.2.2.1), kal (hS2.2.2.2.2.2.2.2.2.2.1), kal (hS2.2.2.2.2.2.2.2.2.2.2.1), kal (hS2.2.2.2.2.2.2.2.2.2.2.2.1), kal (hS2.2.2.2.2.2.2.2.2.2.2.2.2.1), kal (hS2.2.2.2.2.2.2.2.2.2.2.2.2.2.1), kal (hS2.2.2.2.2.2.2.2.2.2.2.2.2.2.2)⟩ | exact ⟨kald (hS2.1), kald (hS2.2.1), kald (hS2.2.2.1), kald (hS2.2.2.2.1), kald (hS2.2.2.2.2.1), kald (hS2.2.2.2.2.2.1), kald (hS2.2.2.2.2.2.2.1), kald (hS2.2.2.2.2.2.2.2.1), kald (hS2.2.2.2.2.2.2.2.2.1), kald (hS2.2.2.2.2.2.2.2.2.2.1), kald (hS2.2.2.2.2.2.2.2.2.2.2.1), kald (hS2.2.2.2.2.2.2.2.2.2.2.2.1), kald (hS2.2.2.2.2.2.2.2.2.2.2.2.2.1), kald (hS2.2.2.2.2.2.2.2.2.2.2.2.2.2.1), kald (hS2.2.2.2.2.2.2.2.2.2.2.2.2.2.2)⟩
  clear hK K
  have hS3 := hS3 (by decide)
  try simp only [Act.put, List.setIfInBounds_toArray, List.set_cons_zero, List.set_cons_succ]
  refine wpAnyX_take (i := 5) (oi := _) (v := ?_) rfl (by kernel_rfl) (by kernel_rfl) (by kernel_rfl) (by kernel_rfl) (fun _ _ _ h => h) (Or.inl ⟨by rfl, ?_⟩) hS3 ?_
  rotate_left 1
  · (intro w hSw; (try dsimp only at hSw); go_simp; (try with_reducible rfl))
  change wpAnyX _ _ _ _ _ _ _ _ (Act.put _ (some 2) _) _
  try simp only [Act.put, List.setIfInBounds_toArray, List.set_cons_zero, List.set_cons_succ]
  refine wpAnyX_done (by kernel_rfl) ?_ _
  go_wp2_with fail
  go_ret
  have chbw8 := chain hbW hbw8 hbW.size
  have chbw9 := chain chbw8 hbw9 chbw8.size
  refine ⟨w9.heap.size, rfl, ?_, by omega, ?_⟩
  · show Bx _ _ _ _
    exact Bx.new rfl
  · (repeat' (first | (with_reducible exact Below.refl _ _) | (with_reducible assumption) | (with_reducible refine Below.alloc ?_ ?_ _) | (with_reducible refine Below.drew ?_) | (with_reducible refine below_drewN ?_ _) | (with_reducible refine Below.setCell ?_ ?_ _) | (with_reducible refine chain ?_ (by assumption) ?_) | omega | (simp; done) | (simp; omega)))

set_option maxRecDepth 100000 in
set_option maxHeartbeats 4000000 in
theorem lone_4 {w : World} :
    Calls Try.prog 182 #[.int .i64 4] w fun ee w' => ∃ g : Nat, ee = .returned (.slice (some ⟨g, 0, none⟩) 4 4) ∧ Bk w' g 99 [omP 0, z5, z5, omP 4] ∧ w.heap.size ≤ g ∧ Below w.heap.size w w' := by
  go_enter Try.func182, Try.ntmps182
  go_wp2_with (fail)
  refine lpw0.mono ?_
  rintro ee w1 ⟨rfl, hb1⟩
  have hz1 := hb1.size
  go_upto_region 10 with (fail)
  obtain ⟨W, hW⟩ : ∃ W : World, W = ((w1.alloc (.cells #[.int .i64 (omP 0).a, .int .i64 (omP 0).b, .int .i64 (omP 0).c, .int .i64 (omP 0).d, .int .i64 (omP 0).e] 99)).alloc (.cells #[.int .i64 0, .int .i64 0, .int .i64 0, .int .i64 0, .int .i64 0] 99)).alloc (.cells #[.int .i64 1, .int .i64 0, .int .i64 0, .int .i64 0, .int .i64 1] 99) := ⟨_, rfl⟩
  have hbW : Below w.heap.size w W := by rw [hW]; exact ((hb1.alloc hz1 _).alloc (by simp; omega) _).alloc (by simp; omega) _
  have oX : Bx W w1.heap.size 99 #[.int .i64 (omP 0).a, .int .i64 (omP 0).b, .int .i64 (omP 0).c, .int .i64 (omP 0).d, .int .i64 (omP 0).e] := by rw [hW]; exact ((Bx.new rfl).alloc _).alloc _
  have zX : Bx W (w1.heap.size + 1) 99 #[.int .i64 0, .int .i64 0, .int .i64 0, .int .i64 0, .int .i64 0] := by rw [hW]; exact (Bx.new (by simp)).alloc _
  have hX : Bx W (w1.heap.size + 1 + 1) 99 #[.int .i64 1, .int .i64 0, .int .i64 0, .int .i64 0, .int .i64 1] := by rw [hW]; exact Bx.new (by simp)
  have hzW : w1.heap.size + 1 + 1 < W.heap.size := by rw [hW]; simp
  rw [← hW]
  clear hW
  have o0 := oX.c 0 rfl
  have o1 := oX.c 1 rfl
  have o2 := oX.c 2 rfl
  have o3 := oX.c 3 rfl
  have o4 := oX.c 4 rfl
  have z0 := zX.c 0 rfl
  have z1 := zX.c 1 rfl
  have z2 := zX.c 2 rfl
  have z3 := zX.c 3 rfl
  have z4 := zX.c 4 rfl
  have h0 := hX.c 0 rfl
  have h1 := hX.c 1 rfl
  have h2 := hX.c 2 rfl
  have h3 := hX.c 3 rfl
  have h4 := hX.c 4 rfl
  have yo0 : W.drew.cell? ⟨w1.heap.size, 0, none⟩ = some (.int .i64 (omP 0).a) := o0
  have yo1 : W.drew.cell? ⟨w1.heap.size, 1, none⟩ = some (.int .i64 (omP 0).b) := o1
  have yo2 : W.drew.cell? ⟨w1.heap.size, 2, none⟩ = some (.int .i64 (omP 0).c) := o2
  have yo3 : W.drew.cell? ⟨w1.heap.size, 3, none⟩ = some (.int .i64 (omP 0).d) := o3
  have yo4 : W.drew.cell? ⟨w1.heap.size, 4, none⟩ = some (.int .i64 (omP 0).e) := o4
  have yz0 : W.drew.cell? ⟨w1.heap.size + 1, 0, none⟩ = some (.int .i64 0) := z0
  have yz1 : W.drew.cell? ⟨w1.heap.size + 1, 1, none⟩ = some (.int .i64 0) := z1
  have yz2 : W.drew.cell? ⟨w1.heap.size + 1, 2, none⟩ = some (.int .i64 0) := z2
  have yz3 : W.drew.cell? ⟨w1.heap.size + 1, 3, none⟩ = some (.int .i64 0) := z3
  have yz4 : W.drew.cell? ⟨w1.heap.size + 1, 4, none⟩ = some (.int .i64 0) := z4
  have yh0 : W.drew.cell? ⟨w1.heap.size + 1 + 1, 0, none⟩ = some (.int .i64 1) := h0
  have yh1 : W.drew.cell? ⟨w1.heap.size + 1 + 1, 1, none⟩ = some (.int .i64 0) := h1
  have yh2 : W.drew.cell? ⟨w1.heap.size + 1 + 1, 2, none⟩ = some (.int .i64 0) := h2
  have yh3 : W.drew.cell? ⟨w1.heap.size + 1 + 1, 3, none⟩ = some (.int .i64 0) := h3
  have yh4 : W.drew.cell? ⟨w1.heap.size + 1 + 1, 4, none⟩ = some (.int .i64 1) := h4
  refine wp_region_x (fun w' => w'.cell? ⟨w1.heap.size, 0, none⟩ = some (.int .i64 (omP 0).a) ∧ w'.cell? ⟨w1.heap.size, 1, none⟩ = some (.int .i64 (omP 0).b) ∧ w'.cell? ⟨w1.heap.size, 2, none⟩ = some (.int .i64 (omP 0).c) ∧ w'.cell? ⟨w1.heap.size, 3, none⟩ = some (.int .i64 (omP 0).d) ∧ w'.cell? ⟨w1.heap.size, 4, none⟩ = some (.int .i64 (omP 0).e) ∧ w'.cell? ⟨w1.heap.size + 1, 0, none⟩ = some (.int .i64 0) ∧ w'.cell? ⟨w1.heap.size + 1, 1, none⟩ = some (.int .i64 0) ∧ w'.cell? ⟨w1.heap.size + 1, 2, none⟩ = some (.int .i64 0) ∧ w'.cell? ⟨w1.heap.size + 1, 3, none⟩ = some (.int .i64 0) ∧ w'.cell? ⟨w1.heap.size + 1, 4, none⟩ = some (.int .i64 0) ∧ w'.cell? ⟨w1.heap.size + 1 + 1, 0, none⟩ = some (.int .i64 1) ∧ w'.cell? ⟨w1.heap.size + 1 + 1, 1, none⟩ = some (.int .i64 0) ∧ w'.cell? ⟨w1.heap.size + 1 + 1, 2, none⟩ = some (.int .i64 0) ∧ w'.cell? ⟨w1.heap.size + 1 + 1, 3, none⟩ = some (.int .i64 0) ∧ w'.cell? ⟨w1.heap.size + 1 + 1, 4, none⟩ = some (.int .i64 1)) 1000 (by kernel_rfl) ⟨yo0, yo1, yo2, yo3, yo4, yz0, yz1, yz2, yz3, yz4, yh0, yh1, yh2, yh3, yh4⟩ (fun hS0 => ?_)
  refine wpAnyX_take (i := 0) (oi := _) (v := ?_) rfl (by kernel_rfl) (by kernel_rfl) (by kernel_rfl) (by kernel_rfl) (fun _ _ _ h => h) (Or.inl ⟨by rfl, ?_⟩) hS0 ?_
  rotate_left 1
  · (intro w hSw; (try dsimp only at hSw); go_simp; (try with_reducible rfl))
  try simp only [Act.put, List.setIfInBounds_toArray, List.set_cons_zero, List.set_cons_succ]
  refine wpAnyX_take (i := 1) (oi := _) (v := ?_) rfl (by kernel_rfl) (by kernel_rfl) (by kernel_rfl) (by kernel_rfl) (fun _ _ _ h => h) (Or.inl ⟨by rfl, ?_⟩) hS0 ?_
  rotate_left 1
  · (intro w hSw; (try dsimp only at hSw); go_simp; (try with_reducible rfl))
  try simp only [Act.put, List.setIfInBounds_toArray, List.set_cons_zero, List.set_cons_succ]
  refine wpAnyX_take (i := 2) (oi := _) (v := ?_) rfl (by kernel_rfl) (by kernel_rfl) (by kernel_rfl) (by kernel_rfl) (fun _ _ _ h => h) (Or.inl ⟨by rfl, ?_⟩) hS0 ?_
  rotate_left 1
  · (intro w hSw; (try dsimp only at hSw); go_simp; (try with_reducible rfl))
  try simp only [Act.put, List.setIfInBounds_toArray, List.set_cons_zero, List.set_cons_succ]
  refine wpAnyX_take (i := 4) (oi := _) (v := ?_) rfl (by kernel_rfl) (by kernel_rfl) (by kernel_rfl) (by kernel_rfl) (fun _ _ _ h => h) (Or.inl ⟨by rfl, ?_⟩) hS0 ?_
  rotate_left 1
  · (intro w hSw; (try dsimp only at hSw); go_simp; (try with_reducible rfl))
  try simp only [Act.put, List.setIfInBounds_toArray, List.set_cons_zero, List.set_cons_succ]
  refine wpAnyX_take (i := 5) (oi := _) (v := ?_) rfl (by kernel_rfl) (by kernel_rfl) (by kernel_rfl) (by kernel_rfl) (fun _ _ _ h => h) (Or.inl ⟨by rfl, ?_⟩) hS0 ?_
  rotate_left 1
  · (intro w hSw; (try dsimp only at hSw); go_simp; (try with_reducible rfl))
  try simp only [Act.put, List.setIfInBounds_toArray, List.set_cons_zero, List.set_cons_succ]
  refine wpAnyX_one (i := 3) (o := _) rfl (by kernel_rfl) (fun K hK => ?_)
  go_simp
  refine hK.out _ _ (fun _ => ?_) (fun hS1 => ?_)
  · first | exact ⟨kal (hS0.1), kal (hS0.2.1), kal (hS0.2.2.1), kal (hS0.2.2.2.1), kal (hS0.2.2.2.2.1), kal (hS0.2.2.2.2.2.1), kal (hS0.2.2.2.2.2.2.1), kal (hS0.2.2.2.2.2.2.2.1), kal (hS0.2.2.2.2.2.2.2.2.1), kal (hS0.2.2.2.2.2.2.2.2.2.1), kal (hS0.2.2.2.2.2.2.2.2.2.2.1), kal (hS0.2.2.2.2.2.2.2.2.2.2.2.1), kal (hS0.2.2.2.2.2.2.2.2.2.2.2.2.1), kal (hS0.2.2.2.2.2.2.2.2.2.2.2.2.2.1), kal (hS0.2.2.2.2.2.2.2.2.2.2.2.2.2.2)⟩ | exact ⟨kald (hS0.1), kald (hS0.2.1), kald (hS0.2.2.1), kald (hS0.2.2.2.1), kald (hS0.2.2.2.2.1), kald (hS0.2.2.2.2.2.1), kald (hS0.2.2.2.2.2.2.1), kald (hS0.2.2.2.2.2.2.2.1), kald (hS0.2.2.2.2.2.2.2.2.1), kald (hS0.2.2.2.2.2.2.2.2.2.1), kald (hS0.2.2.2.2.2.2.2.2.2.2.1), kald (hS0.2.2.2.2.2.2.2.2.2.2.2.1), kald (hS0.2.2.2.2.2.2.2.2.2.2.2.2.1), kald (hS0.2.2.2.2.2.2.2.2.2.2.2.2.2.1), kald (hS0.2.2.2.2.2.2.2.2.2.2.2.2.2.2)⟩
  clear hK K
  have hS1 := hS1 (by decide)
  try simp only [Act.put, List.setIfInBounds_toArray, List.set_cons_zero, List.set_cons_succ]
  refine wpAnyX_one (i := 6) (o := _) rfl (by kernel_rfl) (fun K hK => ?_)
  go_simp
  refine hK.out _ _ (fun _ => ?_) (fun hS2 => ?_)
  · exact hS1
  clear hK K
  have hS2 := hS2 (by decide)
  try simp only [Act.put, List.setIfInBounds_toArray, List.set_cons_zero, List.set_cons_succ]
  refine wpAnyX_one (i := 7) (o := _) rfl (by kernel_rfl) (fun K hK => ?_)
  go_simp
  refine hK.out _ _ (fun _ => ?_) (fun hS3 => ?_)
  · exact hS2
  clear hK K
  have hS3 := hS3 (by decide)
  try simp only [Act.put, List.setIfInBounds_toArray, List.set_cons_zero, List.set_cons_succ]
  refine wpAnyX_one (i := 8) (o := _) rfl (by kernel_rfl) (fun K hK => ?_)
  go_simp
  refine (lpw4).mono ?_
  rintro ee w8 ⟨rfl, hbw80⟩
  have hbw8 := undrewK hbw80
  have hzw8 := hbw8.size
  (try simp only [World.size_alloc] at hzw8)
  refine hK.out _ _ (fun _ => ?_) (fun hS4 => ?_)
  · exact ⟨kc hbw80 (hS3.1), kc hbw80 (hS3.2.1), kc hbw80 (hS3.2.2.1), kc hbw80 (hS3.2.2.2.1), kc hbw80 (hS3.2.2.2.2.1), kc hbw80 (hS3.2.2.2.2.2.1), kc hbw80 (hS3.2.2.2.2.2.2.1), kc hbw80 (hS3.2.2.2.2.2.2.2.1), kc hbw80 (hS3.2.2.2.2.2.2.2.2.1), kc hbw80 (hS3.2.2.2.2.2.2.2.2.2.1), kc hbw80 (hS3.2.2.2.2.2.2.2.2.2.2.1), kc hbw80 (hS3.2.2.2.2.2.2.2.2.2.2.2.1), kc hbw80 (hS3.2.2.2.2.2.2.2.2.2.2.2.2.1), kc hbw80 (hS3.2.2.2.2.2.2.2.2.2.2.2.2.2.1), kc hbw80 (hS3.2.2.2.2.2.2.2.2.2.2.2.2.2.2)⟩
  clear hK K
  have hS4 := hS4 (by decide)
  try simp only [Act.put, List.setIfInBounds_toArray, List.set_cons_zero, List.set_cons_succ]
  refine wpAnyX_one (i := 9) (o := _) rfl (by kernel_rfl) (fun K hK => ?_)
  go_simp
  refine hK.out _ _ (fun _ => ?_) (fun hS5 => ?_)
  · first | exact ⟨kal (hS4.1), kal (hS4.2.1), kal (hS4.2.2.1), kal (hS4.2.2.2.1), kal (hS4.2.2.2.2.1), kal (hS4.2.2.2.2.2.1), kal (hS4.2.2.2.2.2.2.1), kal (hS4.2.2.2.2.2.2.2.1), kal (hS4.2.2.2.2.2.2.2.2.1), kal (hS4.2.2.2.2.2.2.2.2.2.1), kal (hS4.2.2.2.2.2.2.2.2.2.2.1), kal (hS4.2.2.2.2.2.2.2.2.2.2.2.1), kal (hS4.2.2.2.2.2.2.2.2.2.2.2.2.1), kal (hS4.2.2.2.2.2.2.2.2.2.2.2.2.2.1), kal (hS4.2.2.2.2.2.2.2.2.2.2.2.2.2.2)⟩ | exact ⟨kald (hS4.1), kald (hS4.2.1), kald (hS4.2.2.1), kald (hS4.2.2.2.1), kald (hS4.2.2.2.2.1), kald (hS4.2.2.2.2.2.1), kald (hS4.2.2.2.2.2.2.1), kald (hS4.2.2.2.2.2.2.2.1), kald (hS4.2.2.2.2.2.2.2.2.1), kald (hS4.2.2.2.2.2.2.2.2.2.1), kald (hS4.2.2.2.2.2.2.2.2.2.2.1), kald (hS4.2.2.2.2.2.2.2.2.2.2.2.1), kald (hS4.2.2.2.2.2.2.2.2.2.2.2.2.1), kald (hS4.2.2.2.2.2.2.2.2.2.2.2.2.2.1), kald (hS4.2.2.2.2.2.2.2.2.2.2.2.2.2.2)⟩
  clear hK K
  have hS5 := hS5 (by decide)
  try simp only [Act.put, List.setIfInBounds_toArray, List.set_cons_zero, List.set_cons_succ]
  refine wpAnyX_take (i := 10) (oi := _) (v := ?_) rfl (by kernel_rfl) (by kernel_rfl) (by kernel_rfl) (by kernel_rfl) (fun _ _ _ h => h) (Or.inl ⟨by rfl, ?_⟩) hS5 ?_
  rotate_left 1
  · (intro w hSw; (try dsimp only at hSw); go_simp; (try with_reducible rfl))
  change wpAnyX _ _ _ _ _ _ _ _ (Act.put _ (some 2) _) _
  try simp only [Act.put, List.setIfInBounds_toArray, List.set_cons_zero, List.set_cons_succ]
  refine wpAnyX_done (by kernel_rfl) ?_ _
  go_wp2_with fail
  go_ret
  have hq9 := hbW.size
  have chbw8 : Below w.heap.size w w8 := chain (hbW.alloc hbW.size _) hbw8 (by simp; omega)
  refine ⟨w8.heap.size, rfl, ?_, by omega, ?_⟩
  · show Bx _ _ _ _
    exact Bx.new rfl
  · (repeat' (first | (with_reducible exact Below.refl _ _) | (with_reducible assumption) | (with_reducible refine Below.alloc ?_ ?_ _) | (with_reducible refine Below.drew ?_) | (with_reducible refine below_drewN ?_ _) | (with_reducible refine Below.setCell ?_ ?_ _) | (with_reducible refine chain ?_ (by assumption) ?_) | omega | (simp; done) | (simp; omega)))

set_option maxRecDepth 100000 in
set_option maxHeartbeats 4000000 in
theorem lone_5 {w : World} :
    Calls Try.prog 182 #[.int .i64 5] w fun ee w' => ∃ g : Nat, ee = .returned (.slice (some ⟨g, 0, none⟩) 4 4) ∧ Bk w' g 99 [omP 0, z5, z5, omP 2] ∧ w.heap.size ≤ g ∧ Below w.heap.size w w' := by
  go_enter Try.func182, Try.ntmps182
  go_wp2_with (fail)
  refine lpw0.mono ?_
  rintro ee w1 ⟨rfl, hb1⟩
  have hz1 := hb1.size
  go_upto_region 10 with (fail)
  obtain ⟨W, hW⟩ : ∃ W : World, W = ((w1.alloc (.cells #[.int .i64 (omP 0).a, .int .i64 (omP 0).b, .int .i64 (omP 0).c, .int .i64 (omP 0).d, .int .i64 (omP 0).e] 99)).alloc (.cells #[.int .i64 0, .int .i64 0, .int .i64 0, .int .i64 0, .int .i64 0] 99)).alloc (.cells #[.int .i64 1, .int .i64 0, .int .i64 0, .int .i64 0, .int .i64 1] 99) := ⟨_, rfl⟩
  have hbW : Below w.heap.size w W := by rw [hW]; exact ((hb1.alloc hz1 _).alloc (by simp; omega) _).alloc (by simp; omega) _
  have oX : Bx W w1.heap.size 99 #[.int .i64 (omP 0).a, .int .i64 (omP 0).b, .int .i64 (omP 0).c, .int .i64 (omP 0).d, .int .i64 (omP 0).e] := by rw [hW]; exact ((Bx.new rfl).alloc _).alloc _
  have zX : Bx W (w1.heap.size + 1) 99 #[.int .i64 0, .int .i64 0, .int .i64 0, .int .i64 0, .int .i64 0] := by rw [hW]; exact (Bx.new (by simp)).alloc _
  have hX : Bx W (w1.heap.size + 1 + 1) 99 #[.int .i64 1, .int .i64 0, .int .i64 0, .int .i64 0, .int .i64 1] := by rw [hW]; exact Bx.new (by simp)
  have hzW : w1.heap.size + 1 + 1 < W.heap.size := by rw [hW]; simp
  rw [← hW]
  clear hW
  have o0 := oX.c 0 rfl
  have o1 := oX.c 1 rfl
  have o2 := oX.c 2 rfl
  have o3 := oX.c 3 rfl
  have o4 := oX.c 4 rfl
  have z0 := zX.c 0 rfl
  have z1 := zX.c 1 rfl
  have z2 := zX.c 2 rfl
  have z3 := zX.c 3 rfl
  have z4 := zX.c 4 rfl
  have h0 := hX.c 0 rfl
  have h1 := hX.c 1 rfl
  have h2 := hX.c 2 rfl
  have h3 := hX.c 3 rfl
  have h4 := hX.c 4 rfl
  have yo0 : W.drew.cell? ⟨w1.heap.size, 0, none⟩ = some (.int .i64 (omP 0).a) := o0
  have yo1 : W.drew.cell? ⟨w1.heap.size, 1, none⟩ = some (.int .i64 (omP 0).b) := o1
  have yo2 : W.drew.cell? ⟨w1.heap.size, 2, none⟩ = some (.int .i64 (omP 0).c) := o2
  have yo3 : W.drew.cell? ⟨w1.heap.size, 3, none⟩ = some (.int .i64 (omP 0).d) := o3
  have yo4 : W.drew.cell? ⟨w1.heap.size, 4, none⟩ = some (.int .i64 (omP 0).e) := o4
  have yz0 : W.drew.cell? ⟨w1.heap.size + 1, 0, none⟩ = some (.int .i64 0) := z0
  have yz1 : W.drew.cell? ⟨w1.heap.size + 1, 1, none⟩ = some (.int .i64 0) := z1
  have yz2 : W.drew.cell? ⟨w1.heap.size + 1, 2, none⟩ = some (.int .i64 0) := z2
  have yz3 : W.drew.cell? ⟨w1.heap.size + 1, 3, none⟩ = some (.int .i64 0) := z3
  have yz4 : W.drew.cell? ⟨w1.heap.size + 1, 4, none⟩ = some (.int .i64 0) := z4
  have yh0 : W.drew.cell? ⟨w1.heap.size + 1 + 1, 0, none⟩ = some (.int .i64 1) := h0
  have yh1 : W.drew.cell? ⟨w1.heap.size + 1 + 1, 1, none⟩ = some (.int .i64 0) := h1
  have yh2 : W.drew.cell? ⟨w1.heap.size + 1 + 1, 2, none⟩ = some (.int .i64 0) := h2
  have yh3 : W.drew.cell? ⟨w1.heap.size + 1 + 1, 3, none⟩ = some (.int .i64 0) := h3
  have yh4 : W.drew.cell? ⟨w1.heap.size + 1 + 1, 4, none⟩ = some (.int .i64 1) := h4
  refine wp_region_x (fun w' => w'.cell? ⟨w1.heap.size, 0, none⟩ = some (.int .i64 (omP 0).a) ∧ w'.cell? ⟨w1.heap.size, 1, none⟩ = some (.int .i64 (omP 0).b) ∧ w'.cell? ⟨w1.heap.size, 2, none⟩ = some (.int .i64 (omP 0).c) ∧ w'.cell? ⟨w1.heap.size, 3, none⟩ = some (.int .i64 (omP 0).d) ∧ w'.cell? ⟨w1.heap.size, 4, none⟩ = some (.int .i64 (omP 0).e) ∧ w'.cell? ⟨w1.heap.size + 1, 0, none⟩ = some (.int .i64 0) ∧ w'.cell? ⟨w1.heap.size + 1, 1, none⟩ = some (.int .i64 0) ∧ w'.cell? ⟨w1.heap.size + 1, 2, none⟩ = some (.int .i64 0) ∧ w'.cell? ⟨w1.heap.size + 1, 3, none⟩ = some (.int .i64 0) ∧ w'.cell? ⟨w1.heap.size + 1, 4, none⟩ = some (.int .i64 0) ∧ w'.cell? ⟨w1.heap.size + 1 + 1, 0, none⟩ = some (.int .i64 1) ∧ w'.cell? ⟨w1.heap.size + 1 + 1, 1, none⟩ = some (.int .i64 0) ∧ w'.cell? ⟨w1.heap.size + 1 + 1, 2, none⟩ = some (.int .i64 0) ∧ w'.cell? ⟨w1.heap.size + 1 + 1, 3, none⟩ = some (.int .i64 0) ∧ w'.cell? ⟨w1.heap.size + 1 + 1, 4, none⟩ = some (.int .i64 1)) 1000 (by kernel_rfl) ⟨yo0, yo1, yo2, yo3, yo4, yz0, yz1, yz2, yz3, yz4, yh0, yh1, yh2, yh3, yh4⟩ (fun hS0 => ?_)
  refine wpAnyX_take (i := 0) (oi := _) (v := ?_) rfl (by kernel_rfl) (by kernel_rfl) (by kernel_rfl) (by kernel_rfl) (fun _ _ _ h => h) (Or.inl ⟨by rfl, ?_⟩) hS0 ?_
  rotate_left 1
  · (intro w hSw; (try dsimp only at hSw); go_simp; (try with_reducible rfl))
  try simp only [Act.put, List.setIfInBounds_toArray, List.set_cons_zero, List.set_cons_succ]
  refine wpAnyX_take (i := 1) (oi := _) (v := ?_) rfl (by kernel_rfl) (by kernel_rfl) (by kernel_rfl) (by kernel_rfl) (fun _ _ _ h => h) (Or.inl ⟨by rfl, ?_⟩) hS0 ?_
  rotate_left 1
  · (intro w hSw; (try dsimp only at hSw); go_simp; (try with_reducible rfl))
  try simp only [Act.put, List.setIfInBounds_toArray, List.set_cons_zero, List.set_cons_succ]
  refine wpAnyX_take (i := 2) (oi := _) (v := ?_) rfl (by kernel_rfl) (by kernel_rfl) (by kernel_rfl) (by kernel_rfl) (fun _ _ _ h => h) (Or.inl ⟨by rfl, ?_⟩) hS0 ?_
  rotate_left 1
  · (intro w hSw; (try dsimp only at hSw); go_simp; (try with_reducible rfl))
  try simp only [Act.put, List.setIfInBounds_toArray, List.set_cons_zero, List.set_cons_succ]
  refine wpAnyX_take (i := 4) (oi := _) (v := ?_) rfl (by kernel_rfl) (by kernel_rfl) (by kernel_rfl) (by kernel_rfl) (fun _ _ _ h => h) (Or.inl ⟨by rfl, ?_⟩) hS0 ?_
  rotate_left 1
  · (intro w hSw; (try dsimp only at hSw); go_simp; (try with_reducible rfl))
  try simp only [Act.put, List.setIfInBounds_toArray, List.set_cons_zero, List.set_cons_succ]
  refine wpAnyX_take (i := 5) (oi := _) (v := ?_) rfl (by kernel_rfl) (by kernel_rfl) (by kernel_rfl) (by kernel_rfl) (fun _ _ _ h => h) (Or.inl ⟨by rfl, ?_⟩) hS0 ?_
  rotate_left 1
  · (intro w hSw; (try dsimp only at hSw); go_simp; (try with_reducible rfl))
  try simp only [Act.put, List.setIfInBounds_toArray, List.set_cons_zero, List.set_cons_succ]
  refine wpAnyX_one (i := 3) (o := _) rfl (by kernel_rfl) (fun K hK => ?_)
  go_simp
  refine hK.out _ _ (fun _ => ?_) (fun hS1 => ?_)
  · first | exact ⟨kal (hS0.1), kal (hS0.2.1), kal (hS0.2.2.1), kal (hS0.2.2.2.1), kal (hS0.2.2.2.2.1), kal (hS0.2.2.2.2.2.1), kal (hS0.2.2.2.2.2.2.1), kal (hS0.2.2.2.2.2.2.2.1), kal (hS0.2.2.2.2.2.2.2.2.1), kal (hS0.2.2.2.2.2.2.2.2.2.1), kal (hS0.2.2.2.2.2.2.2.2.2.2.1), kal (hS0.2.2.2.2.2.2.2.2.2.2.2.1), kal (hS0.2.2.2.2.2.2.2.2.2.2.2.2.1), kal (hS0.2.2.2.2.2.2.2.2.2.2.2.2.2.1), kal (hS0.2.2.2.2.2.2.2.2.2.2.2.2.2.2)⟩ | exact ⟨kald (hS0.1), kald (hS0.2.1), kald (hS0.2.2.1), kald (hS0.2.2.2.1), kald (hS0.2.2.2.2.1), kald (hS0.2.2.2.2.2.1), kald (hS0.2.2.2.2.2.2.1), kald (hS0.2.2.2.2.2.2.2.1), kald (hS0.2.2.2.2.2.2.2.2.1), kald (hS0.2.2.2.2.2.2.2.2.2.1), kald (hS0.2.2.2.2.2.2.2.2.2.2.1), kald (hS0.2.2.2.2.2.2.2.2.2.2.2.1), kald (hS0.2.2.2.2.2.2.2.2.2.2.2.2.1), kald (hS0.2.2.2.2.2.2.2.2.2.2.2.2.2.1), kald (hS0.2.2.2.2.2.2.2.2.2.2.2.2.2.2)⟩
  clear hK K
  have hS1 := hS1 (by decide)
  try simp only [Act.put, List.setIfInBounds_toArray, List.set_cons_zero, List.set_cons_succ]
  refine wpAnyX_one (i := 6) (o := _) rfl (by kernel_rfl) (fun K hK => ?_)
  go_simp
  refine hK.out _ _ (fun _ => ?_) (fun hS2 => ?_)
  · exact hS1
  clear hK K
  have hS2 := hS2 (by decide)
  try simp only [Act.put, List.setIfInBounds_toArray, List.set_cons_zero, List.set_cons_succ]
  refine wpAnyX_one (i := 7) (o := _) rfl (by kernel_rfl) (fun K hK => ?_)
  go_simp
  refine hK.out _ _ (fun _ => ?_) (fun hS3 => ?_)
  · exact hS2
  clear hK K
  have hS3 := hS3 (by decide)
  try simp only [Act.put, List.setIfInBounds_toArray, List.set_cons_zero, List.set_cons_succ]
  refine wpAnyX_one (i := 8) (o := _) rfl (by kernel_rfl) (fun K hK => ?_)
  go_simp
  refine (lpw2).mono ?_
  rintro ee w8 ⟨rfl, hbw80⟩
  have hbw8 := undrewK hbw80
  have hzw8 := hbw8.size
  (try simp only [World.size_alloc] at hzw8)
  refine hK.out _ _ (fun _ => ?_) (fun hS4 => ?_)
  · exact ⟨kc hbw80 (hS3.1), kc hbw80 (hS3.2.1), kc hbw80 (hS3.2.2.1), kc hbw80 (hS3.2.2.2.1), kc hbw80 (hS3.2.2.2.2.1), kc hbw80 (hS3.2.2.2.2.2.1), kc hbw80 (hS3.2.2.2.2.2.2.1), kc hbw80 (hS3.2.2.2.2.2.2.2.1), kc hbw80 (hS3.2.2.2.2.2.2.2.2.1), kc hbw80 (hS3.2.2.2.2.2.2.2.2.2.1), kc hbw80 (hS3.2.2.2.2.2.2.2.2.2.2.1), kc hbw80 (hS3.2.2.2.2.2.2.2.2.2.2.2.1), kc hbw80 (hS3.2.2.2.2.2.2.2.2.2.2.2.2.1), kc hbw80 (hS3.2.2.2.2.2.2.2.2.2.2.2.2.2.1), kc hbw80 (hS3.2.2.2.2.2.2.2.2.2.2.2.2.2.2)⟩
  clear hK K
  have hS4 := hS4 (by decide)
  try simp only [Act.put, List.setIfInBounds_toArray, List.set_cons_zero, List.set_cons_succ]
  refine wpAnyX_one (i := 9) (o := _) rfl (by kernel_rfl) (fun K hK => ?_)
  go_simp
  refine hK.out _ _ (fun _ => ?_) (fun hS5 => ?_)
  · first | exact ⟨kal (hS4.1), kal (hS4.2.1), kal (hS4.2.2.1), kal (hS4.2.2.2.1), kal (hS4.2.2.2.2.1), kal (hS4.2.2.2.2.2.1), kal (hS4.2.2.2.2.2.2.1), kal (hS4.2.2.2.2.2.2.2.1), kal (hS4.2.2.2.2.2.2.2.2.1), kal (hS4.2.2.2.2.2.2.2.2.2.1), kal (hS4.2.2.2.2.2.2.2.2.2.2.1), kal (hS4.2.2.2.2.2.2.2.2.2.2.2.1), kal (hS4.2.2.2.2.2.2.2.2.2.2.2.2.1), kal (hS4.2.2.2.2.2.2.2.2.2.2.2.2.2.1), kal (hS4.2.2.2.2.2.2.2.2.2.2.2.2.2.2)⟩ | exact ⟨kald (hS4.1), kald (hS4.2.1), kald (hS4.2.2.1), kald (hS4.2.2.2.1), kald (hS4.2.2.2.2.1), kald (hS4.2.2.2.2.2.1), kald (hS4.2.2.2.2.2.2.1), kald (hS4.2.2.2.2.2.2.2.1), kald (hS4.2.2.2.2.2.2.2.2.1), kald (hS4.2.2.2.2.2.2.2.2.2.1), kald (hS4.2.2.2.2.2.2.2.2.2.2.1), kald (hS4.2.2.2.2.2.2.2.2.2.2.2.1), kald (hS4.2.2.2.2.2.2.2.2.2.2.2.2.1), kald (hS4.2.2.2.2.2.2.2.2.2.2.2.2.2.1), kald (hS4.2.2.2.2.2.2.2.2.2.2.2.2.2.2)⟩
  clear hK K
  have hS5 := hS5 (by decide)
  try simp only [Act.put, List.setIfInBounds_toArray, List.set_cons_zero, List.set_cons_succ]
  refine wpAnyX_take (i := 10) (oi := _) (v := ?_) rfl (by kernel_rfl) (by kernel_rfl) (by kernel_rfl) (by kernel_rfl) (fun _ _ _ h => h) (Or.inl ⟨by rfl, ?_⟩) hS5 ?_
  rotate_left 1
  · (intro w hSw; (try dsimp only at hSw); go_simp; (try with_reducible rfl))
  change wpAnyX _ _ _ _ _ _ _ _ (Act.put _ (some 2) _) _
  try simp only [Act.put, List.setIfInBounds_toArray, List.set_cons_zero, List.set_cons_succ]
  refine wpAnyX_done (by kernel_rfl) ?_ _
  go_wp2_with fail
  go_ret
  have hq9 := hbW.size
  have chbw8 : Below w.heap.size w w8 := chain (hbW.alloc hbW.size _) hbw8 (by simp; omega)
  refine ⟨w8.heap.size, rfl, ?_, by omega, ?_⟩
  · show Bx _ _ _ _
    exact Bx.new rfl
  · (repeat' (first | (with_reducible exact Below.refl _ _) | (with_reducible assumption) | (with_reducible refine Below.alloc ?_ ?_ _) | (with_reducible refine Below.drew ?_) | (with_reducible refine below_drewN ?_ _) | (with_reducible refine Below.setCell ?_ ?_ _) | (with_reducible refine chain ?_ (by assumption) ?_) | omega | (simp; done) | (simp; omega)))

set_option maxRecDepth 100000 in
set_option maxHeartbeats 4000000 in
theorem lone_6 {w : World} :
    Calls Try.prog 182 #[.int .i64 6] w fun ee w' => ∃ g : Nat, ee = .returned (.slice (some ⟨g, 0, none⟩) 4 4) ∧ Bk w' g 99 [omP 0, z5, z5, omP 6] ∧ w.heap.size ≤ g ∧ Below w.heap.size w w' := by
  go_enter Try.func182, Try.ntmps182
  go_wp2_with (fail)
  refine lpw0.mono ?_
  rintro ee w1 ⟨rfl, hb1⟩
  have hz1 := hb1.size
  go_upto_region 10 with (fail)
  obtain ⟨W, hW⟩ : ∃ W : World, W = ((w1.alloc (.cells #[.int .i64 (omP 0).a, .int .i64 (omP 0).b, .int .i64 (omP 0).c, .int .i64 (omP 0).d, .int .i64 (omP 0).e] 99)).alloc (.cells #[.int .i64 0, .int .i64 0, .int .i64 0, .int .i64 0, .int .i64 0] 99)).alloc (.cells #[.int .i64 1, .int .i64 0, .int .i64 0, .int .i64 0, .int .i64 1] 99) := ⟨_, rfl⟩
  have hbW : Below w.heap.size w W := by rw [hW]; exact ((hb1.alloc hz1 _).alloc (by simp; omega) _).alloc (by simp; omega) _
  have oX : Bx W w1.heap.size 99 #[.int .i64 (omP 0).a, .int .i64 (omP 0).b, .int .i64 (omP 0).c, .int .i64 (omP 0).d, .int .i64 (omP 0).e] := by rw [hW]; exact ((Bx.new rfl).alloc _).alloc _
  have zX : Bx W (w1.heap.size + 1) 99 #[.int .i64 0, .int .i64 0, .int .i64 0, .int .i64 0, .int .i64 0] := by rw [hW]; exact (Bx.new (by simp)).alloc _
  have hX : Bx W (w1.heap.size + 1 + 1) 99 #[.int .i64 1, .int .i64 0, .int .i64 0, .int .i64 0, .int .i64 1] := by rw [hW]; exact Bx.new (by simp)
  have hzW : w1.heap.size + 1 + 1 < W.heap.size := by rw [hW]; simp
  rw [← hW]
  clear hW
  have o0 := oX.c 0 rfl
  have o1 := oX.c 1 rfl
  have o2 := oX.c 2 rfl
  have o3 := oX.c 3 rfl
  have o4 := oX.c 4 rfl
  have z0 := zX.c 0 rfl
  have z1 := zX.c 1 rfl
  have z2 := zX.c 2 rfl
  have z3 := zX.c 3 rfl
  have z4 := zX.c 4 rfl
  have h0 := hX.c 0 rfl
  have h1 := hX.c 1 rfl
  have h2 := hX.c 2 rfl
  have h3 := hX.c 3 rfl
  have h4 := hX.c 4 rfl
  have yo0 : W.drew.cell? ⟨w1.heap.size, 0, none⟩ = some (.int .i64 (omP 0).a) := o0
  have yo1 : W.drew.cell? ⟨w1.heap.size, 1, none⟩ = some (.int .i64 (omP 0).b) := o1
  have yo2 : W.drew.cell? ⟨w1.heap.size, 2, none⟩ = some (.int .i64 (omP 0).c) := o2
  have yo3 : W.drew.cell? ⟨w1.heap.size, 3, none⟩ = some (.int .i64 (omP 0).d) := o3
  have yo4 : W.drew.cell? ⟨w1.heap.size, 4, none⟩ = some (.int .i64 (omP 0).e) := o4
  have yz0 : W.drew.cell? ⟨w1.heap.size + 1, 0, none⟩ = some (.int .i64 0) := z0
  have yz1 : W.drew.cell? ⟨w1.heap.size + 1, 1, none⟩ = some (.int .i64 0) := z1
  have yz2 : W.drew.cell? ⟨w1.heap.size + 1, 2, none⟩ = some (.int .i64 0) := z2
  have yz3 : W.drew.cell? ⟨w1.heap.size + 1, 3, none⟩ = some (.int .i64 0) := z3
  have yz4 : W.drew.cell? ⟨w1.heap.size + 1, 4, none⟩ = some (.int .i64 0) := z4
  have yh0 : W.drew.cell? ⟨w1.heap.size + 1 + 1, 0, none⟩ = some (.int .i64 1) := h0
  have yh1 : W.drew.cell? ⟨w1.heap.size + 1 + 1, 1, none⟩ = some (.int .i64 0) := h1
  have yh2 : W.drew.cell? ⟨w1.heap.size + 1 + 1, 2, none⟩ = some (.int .i64 0) := h2
  have yh3 : W.drew.cell? ⟨w1.heap.size + 1 + 1, 3, none⟩ = some (.int .i64 0) := h3
  have yh4 : W.drew.cell? ⟨w1.heap.size + 1 + 1, 4, none⟩ = some (.int .i64 1) := h4
  refine wp_region_x (fun w' => w'.cell? ⟨w1.heap.size, 0, none⟩ = some (.int .i64 (omP 0).a) ∧ w'.cell? ⟨w1.heap.size, 1, none⟩ = some (.int .i64 (omP 0).b) ∧ w'.cell? ⟨w1.heap.size, 2, none⟩ = some (.int .i64 (omP 0).c) ∧ w'.cell? ⟨w1.heap.size, 3, none⟩ = some (.int .i64 (omP 0).d) ∧ w'.cell? ⟨w1.heap.size, 4, none⟩ = some (.int .i64 (omP 0).e) ∧ w'.cell? ⟨w1.heap.size + 1, 0, none⟩ = some (.int .i64 0) ∧ w'.cell? ⟨w1.heap.size + 1, 1, none⟩ = some (.int .i64 0) ∧ w'.cell? ⟨w1.heap.size + 1, 2, none⟩ = some (.int .i64 0) ∧ w'.cell? ⟨w1.heap.size + 1, 3, none⟩ = some (.int .i64 0) ∧ w'.cell? ⟨w1.heap.size + 1, 4, none⟩ = some (.int .i64 0) ∧ w'.cell? ⟨w1.heap.size + 1 + 1, 0, none⟩ = some (.int .i64 1) ∧ w'.cell? ⟨w1.heap.size + 1 + 1, 1, none⟩ = some (.int .i64 0) ∧ w'.cell? ⟨w1.heap.size + 1 + 1, 2, none⟩ = some (.int .i64 0) ∧ w'.cell? ⟨w1.heap.size + 1 + 1, 3, none⟩ = some (.int .i64 0) ∧ w'.cell? ⟨w1.heap.size + 1 + 1, 4, none⟩ = some (.int .i64 1)) 1000 (by kernel_rfl) ⟨yo0, yo1, yo2, yo3, yo4, yz0, yz1, yz2, yz3, yz4, yh0, yh1, yh2, yh3, yh4⟩ (fun hS0 => ?_)
  refine wpAnyX_take (i := 0) (oi := _) (v := ?_) rfl (by kernel_rfl) (by kernel_rfl) (by kernel_rfl) (by kernel_rfl) (fun _ _ _ h => h) (Or.inl ⟨by rfl, ?_⟩) hS0 ?_
  rotate_left 1
  · (intro w hSw; (try dsimp only at hSw); go_simp; (try with_reducible rfl))
  try simp only [Act.put, List.setIfInBounds_toArray, List.set_cons_zero, List.set_cons_succ]
  refine wpAnyX_take (i := 1) (oi := _) (v := ?_) rfl (by kernel_rfl) (by kernel_rfl) (by kernel_rfl) (by kernel_rfl) (fun _ _ _ h => h) (Or.inl ⟨by rfl, ?_⟩) hS0 ?_
  rotate_left 1
  · (intro w hSw; (try dsimp only at hSw); go_simp; (try with_reducible rfl))
  try simp only [Act.put, List.setIfInBounds_toArray, List.set_cons_zero, List.set_cons_succ]
  refine wpAnyX_take (i := 2) (oi := _) (v := ?_) rfl (by kernel_rfl) (by kernel_rfl) (by kernel_rfl) (by kernel_rfl) (fun _ _ _ h => h) (Or.inl ⟨by rfl, ?_⟩) hS0 ?_
  rotate_left 1
  · (intro w hSw; (try dsimp only at hSw); go_simp; (try with_reducible rfl))
  try simp only [Act.put, List.setIfInBounds_toArray, List.set_cons_zero, List.set_cons_succ]
  refine wpAnyX_take (i := 4) (oi := _) (v := ?_) rfl (by kernel_rfl) (by kernel_rfl) (by kernel_rfl) (by kernel_rfl) (fun _ _ _ h => h) (Or.inl ⟨by rfl, ?_⟩) hS0 ?_
  rotate_left 1
  · (intro w hSw; (try dsimp only at hSw); go_simp; (try with_reducible rfl))
  try simp only [Act.put, List.setIfInBounds_toArray, List.set_cons_zero, List.set_cons_succ]
  refine wpAnyX_take (i := 5) (oi := _) (v := ?_) rfl (by kernel_rfl) (by kernel_rfl) (by kernel_rfl) (by kernel_rfl) (fun _ _ _ h => h) (Or.inl ⟨by rfl, ?_⟩) hS0 ?_
  rotate_left 1
  · (intro w hSw; (try dsimp only at hSw); go_simp; (try with_reducible rfl))
  try simp only [Act.put, List.setIfInBounds_toArray, List.set_cons_zero, List.set_cons_succ]
  refine wpAnyX_one (i := 3) (o := _) rfl (by kernel_rfl) (fun K hK => ?_)
  go_simp
  refine hK.out _ _ (fun _ => ?_) (fun hS1 => ?_)
  · first | exact ⟨kal (hS0.1), kal (hS0.2.1), kal (hS0.2.2.1), kal (hS0.2.2.2.1), kal (hS0.2.2.2.2.1), kal (hS0.2.2.2.2.2.1), kal (hS0.2.2.2.2.2.2.1), kal (hS0.2.2.2.2.2.2.2.1), kal (hS0.2.2.2.2.2.2.2.2.1), kal (hS0.2.2.2.2.2.2.2.2.2.1), kal (hS0.2.2.2.2.2.2.2.2.2.2.1), kal (hS0.2.2.2.2.2.2.2.2.2.2.2.1), kal (hS0.2.2.2.2.2.2.2.2.2.2.2.2.1), kal (hS0.2.2.2.2.2.2.2.2.2.2.2.2.2.1), kal (hS0.2.2.2.2.2.2.2.2.2.2.2.2.2.2)⟩ | exact ⟨kald (hS0.1), kald (hS0.2.1), kald (hS0.2.2.1), kald (hS0.2.2.2.1), kald (hS0.2.2.2.2.1), kald (hS0.2.2.2.2.2.1), kald (hS0.2.2.2.2.2.2.1), kald (hS0.2.2.2.2.2.2.2.1), kald (hS0.2.2.2.2.2.2.2.2.1), kald (hS0.2.2.2.2.2.2.2.2.2.1), kald (hS0.2.2.2.2.2.2.2.2.2.2.1), kald (hS0.2.2.2.2.2.2.2.2.2.2.2.1), kald (hS0.2.2.2.2.2.2.2.2.2.2.2.2.1), kald (hS0.2.2.2.2.2.2.2.2.2.2.2.2.2.1), kald (hS0.2.2.2.2.2.2.2.2.2.2.2.2.2.2)⟩
  clear hK K
  have hS1 := hS1 (by decide)
  try simp only [Act.put, List.setIfInBounds_toArray, List.set_cons_zero, List.set_cons_succ]
  refine wpAnyX_one (i := 6) (o := _) rfl (by kernel_rfl) (fun K hK => ?_)
  go_simp
  refine hK.out _ _ (fun _ => ?_) (fun hS2 => ?_)
  · exact hS1
  clear hK K
  have hS2 := hS2 (by decide)
  try simp only [Act.put, List.setIfInBounds_toArray, List.set_cons_zero, List.set_cons_succ]
  refine wpAnyX_one (i := 7) (o := _) rfl (by kernel_rfl) (fun K hK => ?_)
  go_simp
  refine hK.out _ _ (fun _ => ?_) (fun hS3 => ?_)
  · exact hS2
  clear hK K
  have hS3 := hS3 (by decide)
  try simp only [Act.put, List.setIfInBounds_toArray, List.set_cons_zero, List.set_cons_succ]
  refine wpAnyX_one (i := 8) (o := _) rfl (by kernel_rfl) (fun K hK => ?_)
  go_simp
  refine (lpw6).mono ?_
  rintro ee w8 ⟨rfl, hbw80⟩
  have hbw8 := undrewK hbw80
  have hzw8 := hbw8.size
  (try simp only [World.size_alloc] at hzw8)
  refine hK.out _ _ (fun _ => ?_) (fun hS4 => ?_)
  · exact ⟨kc hbw80 (hS3.1), kc hbw80 (hS3.2.1), kc hbw80 (hS3.2.2.1), kc hbw80 (hS3.2.2.2.1), kc hbw80 (hS3.2.2.2.2.1), kc hbw80 (hS3.2.2.2.2.2.1), kc hbw80 (hS3.2.2.2.2.2.2.1), kc hbw80 (hS3.2.2.2.2.2.2.2.1), kc hbw80 (hS3.2.2.2.2.2.2.2.2.1), kc hbw80 (hS3.2.2.2.2.2.2.2.2.2.1), kc hbw80 (hS3.2.2.2.2.2.2.2.2.2.2.1), kc hbw80 (hS3.2.2.2.2.2.2.2.2.2.2.2.1), kc hbw80 (hS3.2.2.2.2.2.2.2.2.2.2.2.2.1), kc hbw80 (hS3.2.2.2.2.2.2.2.2.2.2.2.2.2.1), kc hbw80 (hS3.2.2.2.2.2.2.2.2.2.2.2.2.2.2)⟩
  clear hK K
  have hS4 := hS4 (by decide)
  try simp only [Act.put, List.setIfInBounds_toArray, List.set_cons_zero, List.set_cons_succ]
  refine wpAnyX_one (i := 9) (o := _) rfl (by kernel_rfl) (fun K hK => ?_)
  go_simp
  refine hK.out _ _ (fun _ => ?_) (fun hS5 => ?_)
  · first | exact ⟨kal (hS4.1), kal (hS4.2.1), kal (hS4.2.2.1), kal (hS4.2.2.2.1), kal (hS4.2.2.2.2.1), kal (hS4.2.2.2.2.2.1), kal (hS4.2.2.2.2.2.2.1), kal (hS4.2.2.2.2.2.2.2.1), kal (hS4.2.2.2.2.2.2.2.2.1), kal (hS4.2.2.2.2.2.2.2.2.2.1), kal (hS4.2.2.2.2.2.2.2.2.2.2.1), kal (hS4.2.2.2.2.2.2.2.2.2.2.2.1), kal (hS4.2.2.2.2.2.2.2.2.2.2.2.2.1), kal (hS4.2.2.2.2.2.2.2.2.2.2.2.2.2.1), kal (hS4.2.2.2.2.2.2.2.2.2.2.2.2.2.2)⟩ | exact ⟨kald (hS4.1), kald (hS4.2.1), kald (hS4.2.2.1), kald (hS4.2.2.2.1), kald (hS4.2.2.2.2.1), kald (hS4.2.2.2.2.2.1), kald (hS4.2.2.2.2.2.2.1), kald (hS4.2.2.2.2.2.2.2.1), kald (hS4.2.2.2.2.2.2.2.2.1), kald (hS4.2.2.2.2.2.2.2.2.2.1), kald (hS4.2.2.2.2.2.2.2.2.2.2.1), kald (hS4.2.2.2.2.2.2.2.2.2.2.2.1), kald (hS4.2.2.2.2.2.2.2.2.2.2.2.2.1), kald (hS4.2.2.2.2.2.2.2.2.2.2.2.2.2.1), kald (hS4.2.2.2.2.2.2.2.2.2.2.2.2.2.2)⟩
  clear hK K
  have hS5 := hS5 (by decide)
  try simp only [Act.put, List.setIfInBounds_toArray, List.set_cons_zero, List.set_cons_succ]
  refine wpAnyX_take (i := 10) (oi := _) (v := ?_) rfl (by kernel_rfl) (by kernel_rfl) (by kernel_rfl) (by kernel_rfl) (fun _ _ _ h => h) (Or.inl ⟨by rfl, ?_⟩) hS5 ?_
  rotate_left 1
  · (intro w hSw; (try dsimp only at hSw); go_simp; (try with_reducible rfl))
  change wpAnyX _ _ _ _ _ _ _ _ (Act.put _ (some 2) _) _
  try simp only [Act.put, List.setIfInBounds_toArray, List.set_cons_zero, List.set_cons_succ]
  refine wpAnyX_done (by kernel_rfl) ?_ _
  go_wp2_with fail
  go_ret
  have hq9 := hbW.size
  have chbw8 : Below w.heap.size w w8 := chain (hbW.alloc hbW.size _) hbw8 (by simp; omega)
  refine ⟨w8.heap.size, rfl, ?_, by omega, ?_⟩
  · show Bx _ _ _ _
    exact Bx.new rfl
  · (repeat' (first | (with_reducible exact Below.refl _ _) | (with_reducible assumption) | (with_reducible refine Below.alloc ?_ ?_ _) | (with_reducible refine Below.drew ?_) | (with_reducible refine below_drewN ?_ _) | (with_reducible refine Below.setCell ?_ ?_ _) | (with_reducible refine chain ?_ (by assumption) ?_) | omega | (simp; done) | (simp; omega)))

set_option maxRecDepth 100000 in
set_option maxHeartbeats 4000000 in
theorem lone_7 {w : World} :
    Calls Try.prog 182 #[.int .i64 7] w fun ee w' => ∃ g : Nat, ee = .returned (.slice (some ⟨g, 0, none⟩) 4 4) ∧ Bk w' g 99 [omP 0, z5, z5, omP 1] ∧ w.heap.size ≤ g ∧ Below w.heap.size w w' := by
  go_enter Try.func182, Try.ntmps182
  go_wp2_with (fail)
  refine lpw0.mono ?_
  rintro ee w1 ⟨rfl, hb1⟩
  have hz1 := hb1.size
  go_upto_region 10 with (fail)
  obtain ⟨W, hW⟩ : ∃ W : World, W = ((w1.alloc (.cells #[.int .i64 (omP 0).a, .int .i64 (omP 0).b, .int .i64 (omP 0).c, .int .i64 (omP 0).d, .int .i64 (omP 0).e] 99)).alloc (.cells #[.int .i64 0, .int .i64 0, .int .i64 0, .int .i64 0, .int .i64 0] 99)).alloc (.cells #[.int .i64 1, .int .i64 0, .int .i64 0, .int .i64 0, .int .i64 1] 99) := ⟨_, rfl⟩
  have hbW : Below w.heap.size w W := by rw [hW]; exact ((hb1.alloc hz1 _).alloc (by simp; omega) _).alloc (by simp; omega) _
  have oX : Bx W w1.heap.size 99 #[.int .i64 (omP 0).a, .int .i64 (omP 0).b, .int .i64 (omP 0).c, .int .i64 (omP 0).d, .int .i64 (omP 0).e] := by rw [hW]; exact ((Bx.new rfl).alloc _).alloc _
  have zX : Bx W (w1.heap.size + 1) 99 #[.int .i64 0, .int .i64 0, .int .i64 0, .int .i64 0, .int .i64 0] := by rw [hW]; exact (Bx.new (by simp)).alloc _
  have hX : Bx W (w1.heap.size + 1 + 1) 99 #[.int .i64 1, .int .i64 0, .int .i64 0, .int .i64 0, .int .i64 1] := by rw [hW]; exact Bx.new (by simp)
  have hzW : w1.heap.size + 1 + 1 < W.heap.size := by rw [hW]; simp
  rw [← hW]
  clear hW
  have o0 := oX.c 0 rfl
  have o1 := oX.c 1 rfl
  have o2 := oX.c 2 rfl
  have o3 := oX.c 3 rfl
  have o4 := oX.c 4 rfl
  have z0 := zX.c 0 rfl
  have z1 := zX.c 1 rfl
  have z2 := zX.c 2 rfl
  have z3 := zX.c 3 rfl
  have z4 := zX.c 4 rfl
  have h0 := hX.c 0 rfl
  have h1 := hX.c 1 rfl
  have h2 := hX.c 2 rfl
  have h3 := hX.c 3 rfl
  have h4 := hX.c 4 rfl
  have yo0 : W.drew.cell? ⟨w1.heap.size, 0, none⟩ = some (.int .i64 (omP 0).a) := o0
  have yo1 : W.drew.cell? ⟨w1.heap.size, 1, none⟩ = some (.int .i64 (omP 0).b) := o1
  have yo2 : W.drew.cell? ⟨w1.heap.size, 2, none⟩ = some (.int .i64 (omP 0).c) := o2
  have yo3 : W.drew.cell? ⟨w1.heap.size, 3, none⟩ = some (.int .i64 (omP 0).d) := o3
  have yo4 : W.drew.cell? ⟨w1.heap.size, 4, none⟩ = some (.int .i64 (omP 0).e) := o4
  have yz0 : W.drew.cell? ⟨w1.heap.size + 1, 0, none⟩ = some (.int .i64 0) := z0
  have yz1 : W.drew.cell? ⟨w1.heap.size + 1, 1, none⟩ = some (.int .i64 0) := z1
  have yz2 : W.drew.cell? ⟨w1.heap.size + 1, 2, none⟩ = some (.int .i64 0) := z2
  have yz3 : W.drew.cell? ⟨w1.heap.size + 1, 3, none⟩ = some (.int .i64 0) := z3
  have yz4 : W.drew.cell? ⟨w1.heap.size + 1, 4, none⟩ = some (.int .i64 0) := z4
  have yh0 : W.drew.cell? ⟨w1.heap.size + 1 + 1, 0, none⟩ = some (.int .i64 1) := h0
  have yh1 : W.drew.cell? ⟨w1.heap.size + 1 + 1, 1, none⟩ = some (.int .i64 0) := h1
  have yh2 : W.drew.cell? ⟨w1.heap.size + 1 + 1, 2, none⟩ = some (.int .i64 0) := h2
  have yh3 : W.drew.cell? ⟨w1.heap.size + 1 + 1, 3, none⟩ = some (.int .i64 0) := h3
  have yh4 : W.drew.cell? ⟨w1.heap.size + 1 + 1, 4, none⟩ = some (.int .i64 1) := h4
  refine wp_region_x (fun w' => w'.cell? ⟨w1.heap.size, 0, none⟩ = some (.int .i64 (omP 0).a) ∧ w'.cell? ⟨w1.heap.size, 1, none⟩ = some (.int .i64 (omP 0).b) ∧ w'.cell? ⟨w1.heap.size, 2, none⟩ = some (.int .i64 (omP 0).c) ∧ w'.cell? ⟨w1.heap.size, 3, none⟩ = some (.int .i64 (omP 0).d) ∧ w'.cell? ⟨w1.heap.size, 4, none⟩ = some (.int .i64 (omP 0).e) ∧ w'.cell? ⟨w1.heap.size + 1, 0, none⟩ = some (.int .i64 0) ∧ w'.cell? ⟨w1.heap.size + 1, 1, none⟩ = some (.int .i64 0) ∧ w'.cell? ⟨w1.heap.size + 1, 2, none⟩ = some (.int .i64 0) ∧ w'.cell? ⟨w1.heap.size + 1, 3, none⟩ = some (.int .i64 0) ∧ w'.cell? ⟨w1.heap.size + 1, 4, none⟩ = some (.int .i64 0) ∧ w'.cell? ⟨w1.heap.size + 1 + 1, 0, none⟩ = some (.int .i64 1) ∧ w'.cell? ⟨w1.heap.size + 1 + 1, 1, none⟩ = some (.int .i64 0) ∧ w'.cell? ⟨w1.heap.size + 1 + 1, 2, none⟩ = some (.int .i64 0) ∧ w'.cell? ⟨w1.heap.size + 1 + 1, 3, none⟩ = some (.int .i64 0) ∧ w'.cell? ⟨w1.heap.size + 1 + 1, 4, none⟩ = some (.int .i64 1)) 1000 (by kernel_rfl) ⟨yo0, yo1, yo2, yo3, yo4, yz0, yz1, yz2, yz3, yz4, yh0, yh1, yh2, yh3, yh4⟩ (fun hS0 => ?_)
  refine wpAnyX_take (i := 0) (oi := _) (v := ?_) rfl (by kernel_rfl) (by kernel_rfl) (by kernel_rfl) (by kernel_rfl) (fun _ _ _ h => h) (Or.inl ⟨by rfl, ?_⟩) hS0 ?_
  rotate_left 1
  · (intro w hSw; (try dsimp only at hSw); go_simp; (try with_reducible rfl))
  try simp only [Act.put, List.setIfInBounds_toArray, List.set_cons_zero, List.set_cons_succ]
  refine wpAnyX_take (i := 1) (oi := _) (v := ?_) rfl (by kernel_rfl) (by kernel_rfl) (by kernel_rfl) (by kernel_rfl) (fun _ _ _ h => h) (Or.inl ⟨by rfl, ?_⟩) hS0 ?_
  rotate_left 1
  · (intro w hSw; (try dsimp only at hSw); go_simp; (try with_reducible rfl))
  try simp only [Act.put, List.setIfInBounds_toArray, List.set_cons_zero, List.set_cons_succ]
  refine wpAnyX_take (i := 2) (oi := _) (v := ?_) rfl (by kernel_rfl) (by kernel_rfl) (by kernel_rfl) (by kernel_rfl) (fun _ _ _ h => h) (Or.inl ⟨by rfl, ?_⟩) hS0 ?_
  rotate_left 1
  · (intro w hSw; (try dsimp only at hSw); go_simp; (try with_reducible rfl))
  try simp only [Act.put, List.setIfInBounds_toArray, List.set_cons_zero, List.set_cons_succ]
  refine wpAnyX_take (i := 4) (oi := _) (v := ?_) rfl (by kernel_rfl) (by kernel_rfl) (by kernel_rfl) (by kernel_rfl) (fun _ _ _ h => h) (Or.inl ⟨by rfl, ?_⟩) hS0 ?_
  rotate_left 1
  · (intro w hSw; (try dsimp only at hSw); go_simp; (try with_reducible rfl))
  try simp only [Act.put, List.setIfInBounds_toArray, List.set_cons_zero, List.set_cons_succ]
  refine wpAnyX_take (i := 5) (oi := _) (v := ?_) rfl (by kernel_rfl) (by kernel_rfl) (by kernel_rfl) (by kernel_rfl) (fun _ _ _ h => h) (Or.inl ⟨by rfl, ?_⟩) hS0 ?_
  rotate_left 1
  · (intro w hSw; (try dsimp only at hSw); go_simp; (try with_reducible rfl))
  try simp only [Act.put, List.setIfInBounds_toArray, List.set_cons_zero, List.set_cons_succ]
  refine wpAnyX_one (i := 3) (o := _) rfl (by kernel_rfl) (fun K hK => ?_)
  go_simp
  refine hK.out _ _ (fun _ => ?_) (fun hS1 => ?_)
  · first | exact ⟨kal (hS0.1), kal (hS0.2.1), kal (hS0.2.2.1), kal (hS0.2.2.2.1), kal (hS0.2.2.2.2.1), kal (hS0.2.2.2.2.2.1), kal (hS0.2.2.2.2.2.2.1), kal (hS0.2.2.2.2.2.2.2.1), kal (hS0.2.2.2.2.2.2.2.2.1), kal (hS0.2.2.2.2.2.2.2.2.2.1), kal (hS0.2.2.2.2.2.2.2.2.2.2.1), kal (hS0.2.2.2.2.2.2.2.2.2.2.2.1), kal (hS0.2.2.2.2.2.2.2.2.2.2.2.2.1), kal (hS0.2.2.2.2.2.2.2.2.2.2.2.2.2.1), kal (hS0.2.2.2.2.2.2.2.2.2.2.2.2.2.2)⟩ | exact ⟨kald (hS0.1), kald (hS0.2.1), kald (hS0.2.2.1), kald (hS0.2.2.2.1), kald (hS0.2.2.2.2.1), kald (hS0.2.2.2.2.2.1), kald (hS0.2.2.2.2.2.2.1), kald (hS0.2.2.2.2.2.2.2.1), kald (hS0.2.2.2.2.2.2.2.2.1), kald (hS0.2.2.2.2.2.2.2.2.2.1), kald (hS0.2.2.2.2.2.2.2.2.2.2.1), kald (hS0.2.2.2.2.2.2.2.2.2.2.2.1), kald (hS0.2.2.2.2.2.2.2.2.2.2.2.2.1), kald (hS0.2.2.2.2.2.2.2.2.2.2.2.2.2.1), kald (hS0.2.2.2.2.2.2.2.2.2.2.2.2.2.2)⟩
  clear hK K
  have hS1 := hS1 (by decide)
  try simp only [Act.put, List.setIfInBounds_toArray, List.set_cons_zero, List.set_cons_succ]
  refine wpAnyX_one (i := 6) (o := _) rfl (by kernel_rfl) (fun K hK => ?_)
  go_simp
  refine hK.out _ _ (fun _ => ?_) (fun hS2 => ?_)
  · exact hS1
  clear hK K
  have hS2 := hS2 (by decide)
  try simp only [Act.put, List.setIfInBounds_toArray, List.set_cons_zero, List.set_cons_succ]
  refine wpAnyX_one (i := 7) (o := _) rfl (by kernel_rfl) (fun K hK => ?_)
  go_simp
  refine hK.out _ _ (fun _ => ?_) (fun hS3 => ?_)
  · exact hS2
  clear hK K
  have hS3 := hS3 (by decide)
  try simp only [Act.put, List.setIfInBounds_toArray, List.set_cons_zero, List.set_cons_succ]
  refine wpAnyX_one (i := 8) (o := _) rfl (by kernel_rfl) (fun K hK => ?_)
  go_simp
  refine (lpw1).mono ?_
  rintro ee w8 ⟨rfl, hbw80⟩
  have hbw8 := undrewK hbw80
  have hzw8 := hbw8.size
  (try simp only [World.size_alloc] at hzw8)
  refine hK.out _ _ (fun _ => ?_) (fun hS4 => ?_)
  · exact ⟨kc hbw80 (hS3.1), kc hbw80 (hS3.2.1), kc hbw80 (hS3.2.2.1), kc hbw80 (hS3.2.2.2.1), kc hbw80 (hS3.2.2.2.2.1), kc hbw80 (hS3.2.2.2.2.2.1), kc hbw80 (hS3.2.2.2.2.2.2.1), kc hbw80 (hS3.2.2.2.2.2.2.2.1), kc hbw80 (hS3.2.2.2.2.2.2.2.2.1), kc hbw80 (hS3.2.2.2.2.2.2.2.2.2.1), kc hbw80 (hS3.2.2.2.2.2.2.2.2.2.2.1), kc hbw80 (hS3.2.2.2.2.2.2.2.2.2.2.2.1), kc hbw80 (hS3.2.2.2.2.2.2.2.2.2.2.2.2.1), kc hbw80 (hS3.2.2.2.2.2.2.2.2.2.2.2.2.2.1), kc hbw80 (hS3.2.2.2.2.2.2.2.2.2.2.2.2.2.2)⟩
  clear hK K
  have hS4 := hS4 (by decide)
  try simp only [Act.put, List.setIfInBounds_toArray, List.set_cons_zero, List.set_cons_succ]
  refine wpAnyX_one (i := 9) (o := _) rfl (by kernel_rfl) (fun K hK => ?_)
  go_simp
  refine hK.out _ _ (fun _ => ?_) (fun hS5 => ?_)
  · first | exact ⟨kal (hS4.1), kal (hS4.2.1), kal (hS4.2.2.1), kal (hS4.2.2.2.1), kal (hS4.2.2.2.2.1), kal (hS4.2.2.2.2.2.1), kal (hS4.2.2.2.2.2.2.1), kal (hS4.2.2.2.2.2.2.2.1), kal (hS4.2.2.2.2.2.2.2.2.1), kal (hS4.2.2.2.2.2.2.2.2.2.1), kal (hS4.2.2.2.2.2.2.2.2.2.2.1), kal (hS4.2.2.2.2.2.2.2.2.2.2.2.1), kal (hS4.2.2.2.2.2.2.2.2.2.2.2.2.1), kal (hS4.2.2.2.2.2.2.2.2.2.2.2.2.2.1), kal (hS4.2.2.2.2.2.2.2.2.2.2.2.2.2.2)⟩ | exact ⟨kald (hS4.1), kald (hS4.2.1), kald (hS4.2.2.1), kald (hS4.2.2.2.1), kald (hS4.2.2.2.2.1), kald (hS4.2.2.2.2.2.1), kald (hS4.2.2.2.2.2.2.1), kald (hS4.2.2.2.2.2.2.2.1), kald (hS4.2.2.2.2.2.2.2.2.1), kald (hS4.2.2.2.2.2.2.2.2.2.1), kald (hS4.2.2.2.2.2.2.2.2.2.2.1), kald (hS4.2.2.2.2.2.2.2.2.2.2.2.1), kald (hS4.2.2.2.2.2.2.2.2.2.2.2.2.1), kald (hS4.2.2.2.2.2.2.2.2.2.2.2.2.2.1), kald (hS4.2.2.2.2.2.2.2.2.2.2.2.2.2.2)⟩
  clear hK K
  have hS5 := hS5 (by decide)
  try simp only [Act.put, List.setIfInBounds_toArray, List.set_cons_zero, List.set_cons_succ]
  refine wpAnyX_take (i := 10) (oi := _) (v := ?_) rfl (by kernel_rfl) (by kernel_rfl) (by kernel_rfl) (by kernel_rfl) (fun _ _ _ h => h) (Or.inl ⟨by rfl, ?_⟩) hS5 ?_
  rotate_left 1
  · (intro w hSw; (try dsimp only at hSw); go_simp; (try with_reducible rfl))
  change wpAnyX _ _ _ _ _ _ _ _ (Act.put _ (some 2) _) _
  try simp only [Act.put, List.setIfInBounds_toArray, List.set_cons_zero, List.set_cons_succ]
  refine wpAnyX_done (by kernel_rfl) ?_ _
  go_wp2_with fail
  go_ret
  have hq9 := hbW.size
  have chbw8 : Below w.heap.size w w8 := chain (hbW.alloc hbW.size _) hbw8 (by simp; omega)
  refine ⟨w8.heap.size, rfl, ?_, by omega, ?_⟩
  · show Bx _ _ _ _
    exact Bx.new rfl
  · (repeat' (first | (with_reducible exact Below.refl _ _) | (with_reducible assumption) | (with_reducible refine Below.alloc ?_ ?_ _) | (with_reducible refine Below.drew ?_) | (with_reducible refine below_drewN ?_ _) | (with_reducible refine Below.setCell ?_ ?_ _) | (with_reducible refine chain ?_ (by assumption) ?_) | omega | (simp; done) | (simp; omega)))

set_option maxRecDepth 100000 in
set_option maxHeartbeats 4000000 in
theorem lone_8 {w : World} :
    Calls Try.prog 182 #[.int .i64 8] w fun ee w' => ∃ g : Nat, ee = .returned (.slice (some ⟨g, 0, none⟩) 4 4) ∧ Bk w' g 99 [omP 0, z5, z5, omP 7] ∧ w.heap.size ≤ g ∧ Below w.heap.size w w' := by
  go_enter Try.func182, Try.ntmps182
  go_wp2_with (fail)
  refine lpw0.mono ?_
  rintro ee w1 ⟨rfl, hb1⟩
  have hz1 := hb1.size
  go_upto_region 10 with (fail)
  obtain ⟨W, hW⟩ : ∃ W : World, W = ((w1.alloc (.cells #[.int .i64 (omP 0).a, .int .i64 (omP 0).b, .int .i64 (omP 0).c, .int .i64 (omP 0).d, .int .i64 (omP 0).e] 99)).alloc (.cells #[.int .i64 0, .int .i64 0, .int .i64 0, .int .i64 0, .int .i64 0] 99)).alloc (.cells #[.int .i64 1, .int .i64 0, .int .i64 0, .int .i64 0, .int .i64 1] 99) := ⟨_, rfl⟩
  have hbW : Below w.heap.size w W := by rw [hW]; exact ((hb1.alloc hz1 _).alloc (by simp; omega) _).alloc (by simp; omega) _
  have oX : Bx W w1.heap.size 99 #[.int .i64 (omP 0).a, .int .i64 (omP 0).b, .int .i64 (omP 0).c, .int .i64 (omP 0).d, .int .i64 (omP 0).e] := by rw [hW]; exact ((Bx.new rfl).alloc _).alloc _
  have zX : Bx W (w1.heap.size + 1) 99 #[.int .i64 0, .int .i64 0, .int .i64 0, .int .i64 0, .int .i64 0] := by rw [hW]; exact (Bx.new (by simp)).alloc _
  have hX : Bx W (w1.heap.size + 1 + 1) 99 #[.int .i64 1, .int .i64 0, .int .i64 0, .int .i64 0, .int .i64 1] := by rw [hW]; exact Bx.new (by simp)
  have hzW : w1.heap.size + 1 + 1 < W.heap.size := by rw [hW]; simp
  rw [← hW]
  clear hW
  have o0 := oX.c 0 rfl
  have o1 := oX.c 1 rfl
  have o2 := oX.c 2 rfl
  have o3 := oX.c 3 rfl
  have o4 := oX.c 4 rfl
  have z0 := zX.c 0 rfl
  have z1 := zX.c 1 rfl
  have z2 := zX.c 2 rfl
  have z3 := zX.c 3 rfl
  have z4 := zX.c 4 rfl
  have h0 := hX.c 0 rfl
  have h1 := hX.c 1 rfl
  have h2 := hX.c 2 rfl
  have h3 := hX.c 3 rfl
  have h4 := hX.c 4 rfl
  have yo0 : W.drew.cell? ⟨w1.heap.size, 0, none⟩ = some (.int .i64 (omP 0).a) := o0
  have yo1 : W.drew.cell? ⟨w1.heap.size, 1, none⟩ = some (.int .i64 (omP 0).b) := o1
  have yo2 : W.drew.cell? ⟨w1.heap.size, 2, none⟩ = some (.int .i64 (omP 0).c) := o2
  have yo3 : W.drew.cell? ⟨w1.heap.size, 3, none⟩ = some (.int .i64 (omP 0).d) := o3
  have yo4 : W.drew.cell? ⟨w1.heap.size, 4, none⟩ = some (.int .i64 (omP 0).e) := o4
  have yz0 : W.drew.cell? ⟨w1.heap.size + 1, 0, none⟩ = some (.int .i64 0) := z0
  have yz1 : W.drew.cell? ⟨w1.heap.size + 1, 1, none⟩ = some (.int .i64 0) := z1
  have yz2 : W.drew.cell? ⟨w1.heap.size + 1, 2, none⟩ = some (.int .i64 0) := z2
  have yz3 : W.drew.cell? ⟨w1.heap.size + 1, 3, none⟩ = some (.int .i64 0) := z3
  have yz4 : W.drew.cell? ⟨w1.heap.size + 1, 4, none⟩ = some (.int .i64 0) := z4
  have yh0 : W.drew.cell? ⟨w1.heap.size + 1 + 1, 0, none⟩ = some (.int .i64 1) := h0
  have yh1 : W.drew.cell? ⟨w1.heap.size + 1 + 1, 1, none⟩ = some (.int .i64 0) := h1
  have yh2 : W.drew.cell? ⟨w1.heap.size + 1 + 1, 2, none⟩ = some (.int .i64 0) := h2
  have yh3 : W.drew.cell? ⟨w1.heap.size + 1 + 1, 3, none⟩ = some (.int .i64 0) := h3
  have yh4 : W.drew.cell? ⟨w1.heap.size + 1 + 1, 4, none⟩ = some (.int .i64 1) := h4
  refine wp_region_x (fun w' => w'.cell? ⟨w1.heap.size, 0, none⟩ = some (.int .i64 (omP 0).a) ∧ w'.cell? ⟨w1.heap.size, 1, none⟩ = some (.int .i64 (omP 0).b) ∧ w'.cell? ⟨w1.heap.size, 2, none⟩ = some (.int .i64 (omP 0).c) ∧ w'.cell? ⟨w1.heap.size, 3, none⟩ = some (.int .i64 (omP 0).d) ∧ w'.cell? ⟨w1.heap.size, 4, none⟩ = some (.int .i64 (omP 0).e) ∧ w'.cell? ⟨w1.heap.size + 1, 0, none⟩ = some (.int .i64 0) ∧ w'.cell? ⟨w1.heap.size + 1, 1, none⟩ = some (.int .i64 0) ∧ w'.cell? ⟨w1.heap.size + 1, 2, none⟩ = some (.int .i64 0) ∧ w'.cell? ⟨w1.heap.size + 1, 3, none⟩ = some (.int .i64 0) ∧ w'.cell? ⟨w1.heap.size + 1, 4, none⟩ = some (.int .i64 0) ∧ w'.cell? ⟨w1.heap.size + 1 + 1, 0, none⟩ = some (.int .i64 1) ∧ w'.cell? ⟨w1.heap.size + 1 + 1, 1, none⟩ = some (.int .i64 0) ∧ w'.cell? ⟨w1.heap.size + 1 + 1, 2, none⟩ = some (.int .i64 0) ∧ w'.cell? ⟨w1.heap.size + 1 + 1, 3, none⟩ = some (.int .i64 0) ∧ w'.cell? ⟨w1.heap.size + 1 + 1, 4, none⟩ = some (.int .i64 1)) 1000 (by kernel_rfl) ⟨yo0, yo1, yo2, yo3, yo4, yz0, yz1, yz2, yz3, yz4, yh0, yh1, yh2, yh3, yh4⟩ (fun hS0 => ?_)
  refine wpAnyX_take (i := 0) (oi := _) (v := ?_) rfl (by kernel_rfl) (by kernel_rfl) (by kernel_rfl) (by kernel_rfl) (fun _ _ _ h => h) (Or.inl ⟨by rfl, ?_⟩) hS0 ?_
  rotate_left 1
  · (intro w hSw; (try dsimp only at hSw); go_simp; (try with_reducible rfl))
  try simp only [Act.put, List.setIfInBounds_toArray, List.set_cons_zero, List.set_cons_succ]
  refine wpAnyX_take (i := 1) (oi := _) (v := ?_) rfl (by kernel_rfl) (by kernel_rfl) (by kernel_rfl) (by kernel_rfl) (fun _ _ _ h => h) (Or.inl ⟨by rfl, ?_⟩) hS0 ?_
  rotate_left 1
  · (intro w hSw; (try dsimp only at hSw); go_simp; (try with_reducible rfl))
  try simp only [Act.put, List.setIfInBounds_toArray, List.set_cons_zero, List.set_cons_succ]
  refine wpAnyX_take (i := 2) (oi := _) (v := ?_) rfl (by kernel_rfl) (by kernel_rfl) (by kernel_rfl) (by kernel_rfl) (fun _ _ _ h => h) (Or.inl ⟨by rfl, ?_⟩) hS0 ?_
  rotate_left 1
  · (intro w hSw; (try dsimp only at hSw); go_simp; (try with_reducible rfl))
  try simp only [Act.put, List.setIfInBounds_toArray, List.set_cons_zero, List.set_cons_succ]
  refine wpAnyX_take (i := 4) (oi := _) (v := ?_) rfl (by kernel_rfl) (by kernel_rfl) (by kernel_rfl) (by kernel_rfl) (fun _ _ _ h => h) (Or.inl ⟨by rfl, ?_⟩) hS0 ?_
  rotate_left 1
  · (intro w hSw; (try dsimp only at hSw); go_simp; (try with_reducible rfl))
  try simp only [Act.put, List.setIfInBounds_toArray, List.set_cons_zero, List.set_cons_succ]
  refine wpAnyX_take (i := 5) (oi := _) (v := ?_) rfl (by kernel_rfl) (by kernel_rfl) (by kernel_rfl) (by kernel_rfl) (fun _ _ _ h => h) (Or.inl ⟨by rfl, ?_⟩) hS0 ?_
  rotate_left 1
  · (intro w hSw; (try dsimp only at hSw); go_simp; (try with_reducible rfl))
  try simp only [Act.put, List.setIfInBounds_toArray, List.set_cons_zero, List.set_cons_succ]
  refine wpAnyX_one (i := 3) (o := _) rfl (by kernel_rfl) (fun K hK => ?_)
  go_simp
  refine hK.out _ _ (fun _ => ?_) (fun hS1 => ?_)
  · first | exact ⟨kal (hS0.1), kal (hS0.2.1), kal (hS0.2.2.1), kal (hS0.2.2.2.1), kal (hS0.2.2.2.2.1), kal (hS0.2.2.2.2.2.1), kal (hS0.2.2.2.2.2.2.1), kal (hS0.2.2.2.2.2.2.2.1), kal (hS0.2.2.2.2.2.2.2.2.1), kal (hS0.2.2.2.2.2.2.2.2.2.1), kal (hS0.2.2.2.2.2.2.2.2.2.2.1), kal (hS0.2.2.2.2.2.2.2.2.2.2.2.1), kal (hS0.2.2.2.2.2.2.2.2.2.2.2.2.1), kal (hS0.2.2.2.2.2.2.2.2.2.2.2.2.2.1), kal (hS0.2.2.2.2.2.2.2.2.2.2.2.2.2.2)⟩ | exact ⟨kald (hS0.1), kald (hS0.2.1), kald (hS0.2.2.1), kald (hS0.2.2.2.1), kald (hS0.2.2.2.2.1), kald (hS0.2.2.2.2.2.1), kald (hS0.2.2.2.2.2.2.1), kald (hS0.2.2.2.2.2.2.2.1), kald (hS0.2.2.2.2.2.2.2.2.1), kald (hS0.2.2.2.2.2.2.2.2.2.1), kald (hS0.2.2.2.2.2.2.2.2.2.2.1), kald (hS0.2.2.2.2.2.2.2.2.2.2.2.1), kald (hS0.2.2.2.2.2.2.2.2.2.2.2.2.1), kald (hS0.2.2.2.2.2.2.2.2.2.2.2.2.2.1), kald (hS0.2.2.2.2.2.2.2.2.2.2.2.2.2.2)⟩
  clear hK K
  have hS1 := hS1 (by decide)
  try simp only [Act.put, List.setIfInBounds_toArray, List.set_cons_zero, List.set_cons_succ]
  refine wpAnyX_one (i := 6) (o := _) rfl (by kernel_rfl) (fun K hK => ?_)
  go_simp
  refine hK.out _ _ (fun _ => ?_) (fun hS2 => ?_)
  · exact hS1
  clear hK K
  have hS2 := hS2 (by decide)
  try simp only [Act.put, List.setIfInBounds_toArray, List.set_cons_zero, List.set_cons_succ]
  refine wpAnyX_one (i := 7) (o := _) rfl (by kernel_rfl) (fun K hK => ?_)
  go_simp
  refine hK.out _ _ (fun _ => ?_) (fun hS3 => ?_)
  · exact hS2
  clear hK K
  have hS3 := hS3 (by decide)
  try simp only [Act.put, List.setIfInBounds_toArray, List.set_cons_zero, List.set_cons_succ]
  refine wpAnyX_one (i := 8) (o := _) rfl (by kernel_rfl) (fun K hK => ?_)
  go_simp
  refine (lpw7).mono ?_
  rintro ee w8 ⟨rfl, hbw80⟩
  have hbw8 := undrewK hbw80
  have hzw8 := hbw8.size
  (try simp only [World.size_alloc] at hzw8)
  refine hK.out _ _ (fun _ => ?_) (fun hS4 => ?_)
  · exact ⟨kc hbw80 (hS3.1), kc hbw80 (hS3.2.1), kc hbw80 (hS3.2.2.1), kc hbw80 (hS3.2.2.2.1), kc hbw80 (hS3.2.2.2.2.1), kc hbw80 (hS3.2.2.2.2.2.1), kc hbw80 (hS3.2.2.2.2.2.2.1), kc hbw80 (hS3.2.2.2.2.2.2.2.1), kc hbw80 (hS3.2.2.2.2.2.2.2.2.1), kc hbw80 (hS3.2.2.2.2.2.2.2.2.2.1), kc hbw80 (hS3.2.2.2.2.2.2.2.2.2.2.1), kc hbw80 (hS3.2.2.2.2.2.2.2.2.2.2.2.1), kc hbw80 (hS3.2.2.2.2.2.2.2.2.2.2.2.2.1), kc hbw80 (hS3.2.2.2.2.2.2.2.2.2.2.2.2.2.1), kc hbw80 (hS3.2.2.2.2.2.2.2.2.2.2.2.2.2.2)⟩
  clear hK K
  have hS4 := hS4 (by decide)
  try simp only [Act.put, List.setIfInBounds_toArray, List.set_cons_zero, List.set_cons_succ]
  refine wpAnyX_one (i := 9) (o := _) rfl (by kernel_rfl) (fun K hK => ?_)
  go_simp
  refine hK.out _ _ (fun _ => ?_) (fun hS5 => ?_)
  · first | exact ⟨kal (hS4.1), kal (hS4.2.1), kal (hS4.2.2.1), kal (hS4.2.2.2.1), kal (hS4.2.2.2.2.1), kal (hS4.2.2.2.2.2.1), kal (hS4.2.2.2.2.2.2.1), kal (hS4.2.2.2.2.2.2.2.1), kal (hS4.2.2.2.2.2.2.2.2.1), kal (hS4.2.2.2.2.2.2.2.2.2.1), kal (hS4.2.2.2.2.2.2.2.2.2.2.1), kal (hS4.2.2.2.2.2.2.2.2.2.2.2.1), kal (hS4.2.2.2.2.2.2.2.2.2.2.2.2.1), kal (hS4.2.2.2.2.2.2.2.2.2.2.2.2.2.1), kal (hS4.2.2.2.2.2.2.2.2.2.2.2.2.2.2)⟩ | exact ⟨kald (hS4.1), kald (hS4.2.1), kald (hS4.2.2.1), kald (hS4.2.2.2.1), kald (hS4.2.2.2.2.1), kald (hS4.2.2.2.2.2.1), kald (hS4.2.2.2.2.2.2.1), kald (hS4.2.2.2.2.2.2.2.1), kald (hS4.2.2.2.2.2.2.2.2.1), kald (hS4.2.2.2.2.2.2.2.2.2.1), kald (hS4.2.2.2.2.2.2.2.2.2.2.1), kald (hS4.2.2.2.2.2.2.2.2.2.2.2.1), kald (hS4.2.2.2.2.2.2.2.2.2.2.2.2.1), kald (hS4.2.2.2.2.2.2.2.2.2.2.2.2.2.1), kald (hS4.2.2.2.2.2.2.2.2.2.2.2.2.2.2)⟩
  clear hK K
  have hS5 := hS5 (by decide)
  try simp only [Act.put, List.setIfInBounds_toArray, List.set_cons_zero, List.set_cons_succ]
  refine wpAnyX_take (i := 10) (oi := _) (v := ?_) rfl (by kernel_rfl) (by kernel_rfl) (by kernel_rfl) (by kernel_rfl) (fun _ _ _ h => h) (Or.inl ⟨by rfl, ?_⟩) hS5 ?_
  rotate_left 1
  · (intro w hSw; (try dsimp only at hSw); go_simp; (try with_reducible rfl))
  change wpAnyX _ _ _ _ _ _ _ _ (Act.put _ (some 2) _) _
  try simp only [Act.put, List.setIfInBounds_toArray, List.set_cons_zero, List.set_cons_succ]
  refine wpAnyX_done (by kernel_rfl) ?_ _
  go_wp2_with fail
  go_ret
  have hq9 := hbW.size
  have chbw8 : Below w.heap.size w w8 := chain (hbW.alloc hbW.size _) hbw8 (by simp; omega)
  refine ⟨w8.heap.size, rfl, ?_, by omega, ?_⟩
  · show Bx _ _ _ _
    exact Bx.new rfl
  · (repeat' (first | (with_reducible exact Below.refl _ _) | (with_reducible assumption) | (with_reducible refine Below.alloc ?_ ?_ _) | (with_reducible refine Below.drew ?_) | (with_reducible refine below_drewN ?_ _) | (with_reducible refine Below.setCell ?_ ?_ _) | (with_reducible refine chain ?_ (by assumption) ?_) | omega | (simp; done) | (simp; omega)))

theorem one_list {kd : Nat} (h1 : 1 ≤ kd) (h8 : kd ≤ 8) {P : List D5 → Prop} (k1 : kd = 1 → P [⟨1, 0, 0, 0, 1⟩, ⟨1, 0, 0, 0, 1⟩, ⟨1, 0, 0, 0, 1⟩, ⟨-1, 0, 0, 0, 1⟩]) (k2 : kd = 2 → P [z5, omP 0, omP 0, z5]) (k3 : kd = 3 → P [z5, omP 6, omP 2, z5]) (k4 : kd = 4 → P [omP 0, z5, z5, omP 4]) (k5 : kd = 5 → P [omP 0, z5, z5, omP 2]) (k6 : kd = 6 → P [omP 0, z5, z5, omP 6]) (k7 : kd = 7 → P [omP 0, z5, z5, omP 1]) (k8 : kd = 8 → P [omP 0, z5, z5, omP 7]) : P (tab 4 (fun i => cellC (one kd i))) := by
  have : kd = 1 ∨ kd = 2 ∨ kd = 3 ∨ kd = 4 ∨ kd = 5 ∨ kd = 6 ∨ kd = 7 ∨ kd = 8 := by omega
  rcases this with rfl | rfl | rfl | rfl | rfl | rfl | rfl | rfl
  · exact k1 rfl
  · exact k2 rfl
  · exact k3 rfl
  · exact k4 rfl
  · exact k5 rfl
  · exact k6 rfl
  · exact k7 rfl
  · exact k8 rfl
theorem lone {kd : Nat} (h1 : 1 ≤ kd) (h8 : kd ≤ 8) {w : World} :
    Calls Try.prog 182 #[.int .i64 (kd : Int)] w fun ee w' => ∃ g : Nat, ee = .returned (.slice (some ⟨g, 0, none⟩) 4 4) ∧ Bk w' g 99 (tab 4 (fun i => cellC (one kd i))) ∧ w.heap.size ≤ g ∧ Below w.heap.size w w' :=
  one_list h1 h8 (P := fun xs => Calls Try.prog 182 #[.int .i64 (kd : Int)] w fun ee w' => ∃ g : Nat, ee = .returned (.slice (some ⟨g, 0, none⟩) 4 4) ∧ Bk w' g 99 xs ∧ w.heap.size ≤ g ∧ Below w.heap.size w w') (fun h => by subst h; exact lone_1) (fun h => by subst h; exact lone_2) (fun h => by subst h; exact lone_3) (fun h => by subst h; exact lone_4) (fun h => by subst h; exact lone_5) (fun h => by subst h; exact lone_6) (fun h => by subst h; exact lone_7) (fun h => by subst h; exact lone_8)
end Go.Proofs.Ytofclfgaekjonaa
