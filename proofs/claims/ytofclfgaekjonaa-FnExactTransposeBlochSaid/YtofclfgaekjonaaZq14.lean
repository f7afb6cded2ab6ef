/- Blb -/
import Derived.Test.YtofclfgaekjonaaZq13
namespace Go.Proofs.Ytofclfgaekjonaa
open Go.RowKit RM
set_option linter.unusedVariables false
set_option linter.unusedSimpArgs false
attribute [local irreducible] World.setCell

set_option maxRecDepth 100000 in
set_option maxHeartbeats 8000000 in
theorem mnr_s12 {g0 gc cp : Nat} {xs : List D5} {z : Bool} {w : World} (hA : Rd w (some ⟨g0, 0, none⟩) xs) (hl : xs.length = 9) (hok : allB xs = true) (hc : Bx w gc 116 #[.bool z]) (hne : gc ≠ g0) :
    Calls Try.prog 124 #[.pointer (some ⟨gc, 0, none⟩), bv (some ⟨g0, 0, none⟩) 9 cp, .int .i64 1, .int .i64 2] w fun ee w' => ee = .returned (mnr (fun i => xs.getD i z5) 1 2).1.v ∧ Below w.heap.size (w.setCell ⟨gc, 0, none⟩ (.bool (z || (mnr (fun i => xs.getD i z5) 1 2).2))) w' := by
  obtain ⟨x0, hx0⟩ : ∃ x, x = xs.getD 4 z5 := ⟨_, rfl⟩
  have C0 : Cx w g0 20 x0 := by rw [hx0]; exact hA.at9 (i := 4) (by omega)
  have K0 : Hid (x0.ok = true) := by rw [hx0]; exact okD hok (by omega)
  obtain ⟨x1, hx1⟩ : ∃ x, x = xs.getD 8 z5 := ⟨_, rfl⟩
  have C1 : Cx w g0 40 x1 := by rw [hx1]; exact hA.at9 (i := 8) (by omega)
  have K1 : Hid (x1.ok = true) := by rw [hx1]; exact okD hok (by omega)
  obtain ⟨x2, hx2⟩ : ∃ x, x = xs.getD 5 z5 := ⟨_, rfl⟩
  have C2 : Cx w g0 25 x2 := by rw [hx2]; exact hA.at9 (i := 5) (by omega)
  have K2 : Hid (x2.ok = true) := by rw [hx2]; exact okD hok (by omega)
  obtain ⟨x3, hx3⟩ : ∃ x, x = xs.getD 7 z5 := ⟨_, rfl⟩
  have C3 : Cx w g0 35 x3 := by rw [hx3]; exact hA.at9 (i := 7) (by omega)
  have K3 : Hid (x3.ok = true) := by rw [hx3]; exact okD hok (by omega)
  have e1 : (mnr (fun i => xs.getD i z5) 1 2) = ((addS false (mulS false x0 x1).1 (neg5 (mulS false x2 x3).1)).1, (mulS false x0 x1).2 || (mulS false x2 x3).2 || (addS false (mulS false x0 x1).1 (neg5 (mulS false x2 x3).1)).2) := by
    rw [hx0, hx1, hx2, hx3]; rfl
  rw [e1]
  clear e1 hx0 hx1 hx2 hx3 hok hl
  have hgl := C0.lt
  have hcl := hc.lt
  have wr4 : IntKind.i64.wrap (4 : Int) = 4 := IntWalk.i64_in _ (by omega)
  have wr5 : IntKind.i64.wrap (5 : Int) = 5 := IntWalk.i64_in _ (by omega)
  have wr7 : IntKind.i64.wrap (7 : Int) = 7 := IntWalk.i64_in _ (by omega)
  have wr8 : IntKind.i64.wrap (8 : Int) = 8 := IntWalk.i64_in _ (by omega)
  go_enter Try.func124, Try.ntmps124
  go_upto_region 1 with (fail)
  obtain ⟨W, hW⟩ : ∃ W : World, W = (w.alloc (.cells #[.slice (some ⟨g0, 0, none⟩) 9 cp] 51)).alloc (.cells #[.int .i64 0, .int .i64 0, .int .i64 0, .int .i64 0, .int .i64 0] 99) := ⟨_, rfl⟩
  have hBW : Below w.heap.size w W := by rw [hW]; exact ((Below.refl _ _).alloc (Nat.le_refl _) _).alloc (by simp) _
  have XB : Bx W w.heap.size 51 #[.slice (some ⟨g0, 0, none⟩) 9 cp] := by rw [hW]; exact (Bx.new rfl).alloc _
  have XR : Bx W (w.heap.size + 1) 99 #[.int .i64 z5.a, .int .i64 z5.b, .int .i64 z5.c, .int .i64 z5.d, .int .i64 z5.e] := by rw [hW]; exact Bx.new (by simp)
  have hzW : W.heap.size = w.heap.size + 1 + 1 := by rw [hW]; simp
  have XF : Bx W gc 116 #[.bool z] := hc.mono hBW
  have hzW2 : w.heap.size + 1 < W.heap.size := by omega
  rw [← hW]
  clear hW hzW
  have ef0 := XF.c 0 rfl
  have eff := XF.f
  have b0 := XB.c 0 rfl
  obtain ⟨p00, p01, p02, p03, p04⟩ := C0.at_ (hBW.block g0 C0.lt)
  obtain ⟨p10, p11, p12, p13, p14⟩ := C1.at_ (hBW.block g0 C1.lt)
  obtain ⟨p20, p21, p22, p23, p24⟩ := C2.at_ (hBW.block g0 C2.lt)
  obtain ⟨p30, p31, p32, p33, p34⟩ := C3.at_ (hBW.block g0 C3.lt)
  clear C0 C1 C2 C3
  have yb0 : W.drew.cell? ⟨w.heap.size, 0, none⟩ = some (.slice (some ⟨g0, 0, none⟩) 9 cp) := b0
  have yp00 : W.drew.cell? ⟨g0, 20, none⟩ = some (.int .i64 x0.a) := p00
  have yp01 : W.drew.cell? ⟨g0, 21, none⟩ = some (.int .i64 x0.b) := p01
  have yp02 : W.drew.cell? ⟨g0, 22, none⟩ = some (.int .i64 x0.c) := p02
  have yp03 : W.drew.cell? ⟨g0, 23, none⟩ = some (.int .i64 x0.d) := p03
  have yp04 : W.drew.cell? ⟨g0, 24, none⟩ = some (.int .i64 x0.e) := p04
  have yp10 : W.drew.cell? ⟨g0, 40, none⟩ = some (.int .i64 x1.a) := p10
  have yp11 : W.drew.cell? ⟨g0, 41, none⟩ = some (.int .i64 x1.b) := p11
  have yp12 : W.drew.cell? ⟨g0, 42, none⟩ = some (.int .i64 x1.c) := p12
  have yp13 : W.drew.cell? ⟨g0, 43, none⟩ = some (.int .i64 x1.d) := p13
  have yp14 : W.drew.cell? ⟨g0, 44, none⟩ = some (.int .i64 x1.e) := p14
  have yp20 : W.drew.cell? ⟨g0, 25, none⟩ = some (.int .i64 x2.a) := p20
  have yp21 : W.drew.cell? ⟨g0, 26, none⟩ = some (.int .i64 x2.b) := p21
  have yp22 : W.drew.cell? ⟨g0, 27, none⟩ = some (.int .i64 x2.c) := p22
  have yp23 : W.drew.cell? ⟨g0, 28, none⟩ = some (.int .i64 x2.d) := p23
  have yp24 : W.drew.cell? ⟨g0, 29, none⟩ = some (.int .i64 x2.e) := p24
  have yp30 : W.drew.cell? ⟨g0, 35, none⟩ = some (.int .i64 x3.a) := p30
  have yp31 : W.drew.cell? ⟨g0, 36, none⟩ = some (.int .i64 x3.b) := p31
  have yp32 : W.drew.cell? ⟨g0, 37, none⟩ = some (.int .i64 x3.c) := p32
  have yp33 : W.drew.cell? ⟨g0, 38, none⟩ = some (.int .i64 x3.d) := p33
  have yp34 : W.drew.cell? ⟨g0, 39, none⟩ = some (.int .i64 x3.e) := p34
  refine wp_region_x (fun w' => w'.cell? ⟨w.heap.size, 0, none⟩ = some (.slice (some ⟨g0, 0, none⟩) 9 cp) ∧ w'.cell? ⟨g0, 20, none⟩ = some (.int .i64 x0.a) ∧ w'.cell? ⟨g0, 21, none⟩ = some (.int .i64 x0.b) ∧ w'.cell? ⟨g0, 22, none⟩ = some (.int .i64 x0.c) ∧ w'.cell? ⟨g0, 23, none⟩ = some (.int .i64 x0.d) ∧ w'.cell? ⟨g0, 24, none⟩ = some (.int .i64 x0.e) ∧ w'.cell? ⟨g0, 40, none⟩ = some (.int .i64 x1.a) ∧ w'.cell? ⟨g0, 41, none⟩ = some (.int .i64 x1.b) ∧ w'.cell? ⟨g0, 42, none⟩ = some (.int .i64 x1.c) ∧ w'.cell? ⟨g0, 43, none⟩ = some (.int .i64 x1.d) ∧ w'.cell? ⟨g0, 44, none⟩ = some (.int .i64 x1.e) ∧ w'.cell? ⟨g0, 25, none⟩ = some (.int .i64 x2.a) ∧ w'.cell? ⟨g0, 26, none⟩ = some (.int .i64 x2.b) ∧ w'.cell? ⟨g0, 27, none⟩ = some (.int .i64 x2.c) ∧ w'.cell? ⟨g0, 28, none⟩ = some (.int .i64 x2.d) ∧ w'.cell? ⟨g0, 29, none⟩ = some (.int .i64 x2.e) ∧ w'.cell? ⟨g0, 35, none⟩ = some (.int .i64 x3.a) ∧ w'.cell? ⟨g0, 36, none⟩ = some (.int .i64 x3.b) ∧ w'.cell? ⟨g0, 37, none⟩ = some (.int .i64 x3.c) ∧ w'.cell? ⟨g0, 38, none⟩ = some (.int .i64 x3.d) ∧ w'.cell? ⟨g0, 39, none⟩ = some (.int .i64 x3.e)) 31 (by kernel_rfl) ⟨yb0, yp00, yp01, yp02, yp03, yp04, yp10, yp11, yp12, yp13, yp14, yp20, yp21, yp22, yp23, yp24, yp30, yp31, yp32, yp33, yp34⟩ (fun hS0 => ?_)
  refine wpAnyX_take (i := 0) (oi := _) (v := ?_) rfl (by kernel_rfl) (by kernel_rfl) (by kernel_rfl) (by kernel_rfl) (fun _ _ _ h => h) (Or.inl ⟨by rfl, ?_⟩) hS0 ?_
  rotate_left 1
  · (intro w hSw; (try dsimp only at hSw); go_simp; (try with_reducible rfl))
  try simp only [Act.put, List.setIfInBounds_toArray, List.set_cons_zero, List.set_cons_succ]
  refine wpAnyX_take (i := 1) (oi := _) (v := ?_) rfl (by kernel_rfl) (by kernel_rfl) (by kernel_rfl) (by kernel_rfl) (fun _ _ _ h => h) (Or.inl ⟨by rfl, ?_⟩) hS0 ?_
  rotate_left 1
  · (intro w hSw; (try dsimp only at hSw); go_simp; (try with_reducible rfl))
  try simp only [Act.put, List.setIfInBounds_toArray, List.set_cons_zero, List.set_cons_succ]
  refine wpAnyX_take (i := 2) (oi := _) (v := ?_) rfl (by kernel_rfl) (by kernel_rfl) (by kernel_rfl) (by kernel_rfl) (fun _ _ _ h => h) (Or.inl ⟨by rfl, ?_⟩) hS0 ?_
  rotate_left 1
  · (intro w hSw; (try dsimp only at hSw); go_simp; (try with_reducible rfl))
  try simp only [Act.put, List.setIfInBounds_toArray, List.set_cons_zero, List.set_cons_succ]
  refine wpAnyX_take (i := 3) (oi := _) (v := ?_) rfl (by kernel_rfl) (by kernel_rfl) (by kernel_rfl) (by kernel_rfl) (fun _ _ _ h => h) (Or.inl ⟨by rfl, ?_⟩) hS0 ?_
  rotate_left 1
  · (intro w hSw; (try dsimp only at hSw); go_simp; (try with_reducible rfl))
  try simp only [Act.put, List.setIfInBounds_toArray, List.set_cons_zero, List.set_cons_succ]
  refine wpAnyX_take (i := 4) (oi := _) (v := ?_) rfl (by kernel_rfl) (by kernel_rfl) (by kernel_rfl) (by kernel_rfl) (fun _ _ _ h => h) (Or.inl ⟨by rfl, ?_⟩) hS0 ?_
  rotate_left 1
  · (intro w hSw; (try dsimp only at hSw); go_simp; (try with_reducible rfl))
  try simp only [Act.put, List.setIfInBounds_toArray, List.set_cons_zero, List.set_cons_succ]
  refine wpAnyX_take (i := 5) (oi := _) (v := ?_) rfl (by kernel_rfl) (by kernel_rfl) (by kernel_rfl) (by kernel_rfl) (fun _ _ _ h => h) (Or.inl ⟨by rfl, ?_⟩) hS0 ?_
  rotate_left 1
  · (intro w hSw; (try dsimp only at hSw); go_simp; (try with_reducible rfl))
  try simp only [Act.put, List.setIfInBounds_toArray, List.set_cons_zero, List.set_cons_succ]
  refine wpAnyX_take (i := 6) (oi := _) (v := ?_) rfl (by kernel_rfl) (by kernel_rfl) (by kernel_rfl) (by kernel_rfl) (fun _ _ _ h => h) (Or.inl ⟨by rfl, ?_⟩) hS0 ?_
  rotate_left 1
  · (intro w hSw; (try dsimp only at hSw); go_simp; (try with_reducible rfl))
  try simp only [Act.put, List.setIfInBounds_toArray, List.set_cons_zero, List.set_cons_succ]
  refine wpAnyX_take (i := 7) (oi := _) (v := ?_) rfl (by kernel_rfl) (by kernel_rfl) (by kernel_rfl) (by kernel_rfl) (fun _ _ _ h => h) (Or.inl ⟨by rfl, ?_⟩) hS0 ?_
  rotate_left 1
  · (intro w hSw; (try dsimp only at hSw); go_simp; (try with_reducible rfl))
  try simp only [Act.put, List.setIfInBounds_toArray, List.set_cons_zero, List.set_cons_succ]
  refine wpAnyX_take (i := 8) (oi := _) (v := ?_) rfl (by kernel_rfl) (by kernel_rfl) (by kernel_rfl) (by kernel_rfl) (fun _ _ _ h => h) (Or.inl ⟨by rfl, ?_⟩) hS0 ?_
  rotate_left 1
  · (intro w hSw; (try dsimp only at hSw); go_simp; (try with_reducible rfl))
  try simp only [Act.put, List.setIfInBounds_toArray, List.set_cons_zero, List.set_cons_succ]
  refine wpAnyX_take (i := 9) (oi := _) (v := ?_) rfl (by kernel_rfl) (by kernel_rfl) (by kernel_rfl) (by kernel_rfl) (fun _ _ _ h => h) (Or.inl ⟨by rfl, ?_⟩) hS0 ?_
  rotate_left 1
  · (intro w hSw; (try dsimp only at hSw); go_simp; (try with_reducible rfl))
  try simp only [Act.put, List.setIfInBounds_toArray, List.set_cons_zero, List.set_cons_succ]
  refine wpAnyX_take (i := 10) (oi := _) (v := ?_) rfl (by kernel_rfl) (by kernel_rfl) (by kernel_rfl) (by kernel_rfl) (fun _ _ _ h => h) (Or.inl ⟨by rfl, ?_⟩) hS0 ?_
  rotate_left 1
  · (intro w hSw; (try dsimp only at hSw); go_simp; (try with_reducible rfl))
  try simp only [Act.put, List.setIfInBounds_toArray, List.set_cons_zero, List.set_cons_succ]
  refine wpAnyX_take (i := 11) (oi := _) (v := ?_) rfl (by kernel_rfl) (by kernel_rfl) (by kernel_rfl) (by kernel_rfl) (fun _ _ _ h => h) (Or.inl ⟨by rfl, ?_⟩) hS0 ?_
  rotate_left 1
  · (intro w hSw; (try dsimp only at hSw); go_simp; (try with_reducible rfl))
  try simp only [Act.put, List.setIfInBounds_toArray, List.set_cons_zero, List.set_cons_succ]
  refine wpAnyX_take (i := 12) (oi := _) (v := ?_) rfl (by kernel_rfl) (by kernel_rfl) (by kernel_rfl) (by kernel_rfl) (fun _ _ _ h => h) (Or.inl ⟨by rfl, ?_⟩) hS0 ?_
  rotate_left 1
  · (intro w hSw; (try dsimp only at hSw); go_simp; (try with_reducible rfl))
  try simp only [Act.put, List.setIfInBounds_toArray, List.set_cons_zero, List.set_cons_succ]
  refine wpAnyX_take (i := 13) (oi := _) (v := ?_) rfl (by kernel_rfl) (by kernel_rfl) (by kernel_rfl) (by kernel_rfl) (fun _ _ _ h => h) (Or.inl ⟨by rfl, ?_⟩) hS0 ?_
  rotate_left 1
  · (intro w hSw; (try dsimp only at hSw); go_simp; (try with_reducible rfl))
  try simp only [Act.put, List.setIfInBounds_toArray, List.set_cons_zero, List.set_cons_succ]
  refine wpAnyX_take (i := 15) (oi := _) (v := ?_) rfl (by kernel_rfl) (by kernel_rfl) (by kernel_rfl) (by kernel_rfl) (fun _ _ _ h => h) (Or.inl ⟨by rfl, ?_⟩) hS0 ?_
  rotate_left 1
  · (intro w hSw; (try dsimp only at hSw); go_simp; (try with_reducible rfl))
  try simp only [Act.put, List.setIfInBounds_toArray, List.set_cons_zero, List.set_cons_succ]
  refine wpAnyX_take (i := 16) (oi := _) (v := ?_) rfl (by kernel_rfl) (by kernel_rfl) (by kernel_rfl) (by kernel_rfl) (fun _ _ _ h => h) (Or.inl ⟨by rfl, ?_⟩) hS0 ?_
  rotate_left 1
  · (intro w hSw; (try dsimp only at hSw); go_simp; (try with_reducible rfl))
  try simp only [Act.put, List.setIfInBounds_toArray, List.set_cons_zero, List.set_cons_succ]
  refine wpAnyX_take (i := 17) (oi := _) (v := ?_) rfl (by kernel_rfl) (by kernel_rfl) (by kernel_rfl) (by kernel_rfl) (fun _ _ _ h => h) (Or.inl ⟨by rfl, ?_⟩) hS0 ?_
  rotate_left 1
  · (intro w hSw; (try dsimp only at hSw); go_simp; (try with_reducible rfl))
  try simp only [Act.put, List.setIfInBounds_toArray, List.set_cons_zero, List.set_cons_succ]
  refine wpAnyX_take (i := 18) (oi := _) (v := ?_) rfl (by kernel_rfl) (by kernel_rfl) (by kernel_rfl) (by kernel_rfl) (fun _ _ _ h => h) (Or.inl ⟨by rfl, ?_⟩) hS0 ?_
  rotate_left 1
  · (intro w hSw; (try dsimp only at hSw); go_simp; (try with_reducible rfl))
  try simp only [Act.put, List.setIfInBounds_toArray, List.set_cons_zero, List.set_cons_succ]
  refine wpAnyX_take (i := 19) (oi := _) (v := ?_) rfl (by kernel_rfl) (by kernel_rfl) (by kernel_rfl) (by kernel_rfl) (fun _ _ _ h => h) (Or.inl ⟨by rfl, ?_⟩) hS0 ?_
  rotate_left 1
  · (intro w hSw; (try dsimp only at hSw); go_simp; (try with_reducible rfl))
  try simp only [Act.put, List.setIfInBounds_toArray, List.set_cons_zero, List.set_cons_succ]
  refine wpAnyX_take (i := 20) (oi := _) (v := ?_) rfl (by kernel_rfl) (by kernel_rfl) (by kernel_rfl) (by kernel_rfl) (fun _ _ _ h => h) (Or.inl ⟨by rfl, ?_⟩) hS0 ?_
  rotate_left 1
  · (intro w hSw; (try dsimp only at hSw); go_simp; (try with_reducible rfl))
  try simp only [Act.put, List.setIfInBounds_toArray, List.set_cons_zero, List.set_cons_succ]
  refine wpAnyX_take (i := 21) (oi := _) (v := ?_) rfl (by kernel_rfl) (by kernel_rfl) (by kernel_rfl) (by kernel_rfl) (fun _ _ _ h => h) (Or.inl ⟨by rfl, ?_⟩) hS0 ?_
  rotate_left 1
  · (intro w hSw; (try dsimp only at hSw); go_simp; (try with_reducible rfl))
  try simp only [Act.put, List.setIfInBounds_toArray, List.set_cons_zero, List.set_cons_succ]
  refine wpAnyX_take (i := 22) (oi := _) (v := ?_) rfl (by kernel_rfl) (by kernel_rfl) (by kernel_rfl) (by kernel_rfl) (fun _ _ _ h => h) (Or.inl ⟨by rfl, ?_⟩) hS0 ?_
  rotate_left 1
  · (intro w hSw; (try dsimp only at hSw); go_simp; (try with_reducible rfl))
  try simp only [Act.put, List.setIfInBounds_toArray, List.set_cons_zero, List.set_cons_succ]
  refine wpAnyX_take (i := 23) (oi := _) (v := ?_) rfl (by kernel_rfl) (by kernel_rfl) (by kernel_rfl) (by kernel_rfl) (fun _ _ _ h => h) (Or.inl ⟨by rfl, ?_⟩) hS0 ?_
  rotate_left 1
  · (intro w hSw; (try dsimp only at hSw); go_simp; (try with_reducible rfl))
  try simp only [Act.put, List.setIfInBounds_toArray, List.set_cons_zero, List.set_cons_succ]
  refine wpAnyX_take (i := 24) (oi := _) (v := ?_) rfl (by kernel_rfl) (by kernel_rfl) (by kernel_rfl) (by kernel_rfl) (fun _ _ _ h => h) (Or.inl ⟨by rfl, ?_⟩) hS0 ?_
  rotate_left 1
  · (intro w hSw; (try dsimp only at hSw); go_simp; (try with_reducible rfl))
  try simp only [Act.put, List.setIfInBounds_toArray, List.set_cons_zero, List.set_cons_succ]
  refine wpAnyX_take (i := 25) (oi := _) (v := ?_) rfl (by kernel_rfl) (by kernel_rfl) (by kernel_rfl) (by kernel_rfl) (fun _ _ _ h => h) (Or.inl ⟨by rfl, ?_⟩) hS0 ?_
  rotate_left 1
  · (intro w hSw; (try dsimp only at hSw); go_simp; (try with_reducible rfl))
  try simp only [Act.put, List.setIfInBounds_toArray, List.set_cons_zero, List.set_cons_succ]
  refine wpAnyX_take (i := 26) (oi := _) (v := ?_) rfl (by kernel_rfl) (by kernel_rfl) (by kernel_rfl) (by kernel_rfl) (fun _ _ _ h => h) (Or.inl ⟨by rfl, ?_⟩) hS0 ?_
  rotate_left 1
  · (intro w hSw; (try dsimp only at hSw); go_simp; (try with_reducible rfl))
  try simp only [Act.put, List.setIfInBounds_toArray, List.set_cons_zero, List.set_cons_succ]
  refine wpAnyX_take (i := 27) (oi := _) (v := ?_) rfl (by kernel_rfl) (by kernel_rfl) (by kernel_rfl) (by kernel_rfl) (fun _ _ _ h => h) (Or.inl ⟨by rfl, ?_⟩) hS0 ?_
  rotate_left 1
  · (intro w hSw; (try dsimp only at hSw); go_simp; (try with_reducible rfl))
  try simp only [Act.put, List.setIfInBounds_toArray, List.set_cons_zero, List.set_cons_succ]
  refine wpAnyX_one (i := 14) (o := _) rfl (by kernel_rfl) (fun K hK => ?_)
  go_simp
  refine (cmulO (x := x0) (y := x1) (z := z) K0.out K1.out (by exact ef0) (by exact eff 0)).mono ?_
  rintro ee wa ⟨rfl, hba⟩
  have hbb := bad_drew hba
  have hza := bad_size hbb
  have Yf := Bx.bad XF hbb
  have yf0 := Yf.c 0 rfl
  have yff := Yf.f
  have hSa := bad_step (bad_0 (B := W.heap.size) ef0) (by omega) hbb (by omega)
  refine hK.out _ _ (fun _ => ?_) (fun hS1 => ?_)
  · exact ⟨kbad hba (by omega) (hS0.1), kbad hba (by omega) (hS0.2.1), kbad hba (by omega) (hS0.2.2.1), kbad hba (by omega) (hS0.2.2.2.1), kbad hba (by omega) (hS0.2.2.2.2.1), kbad hba (by omega) (hS0.2.2.2.2.2.1), kbad hba (by omega) (hS0.2.2.2.2.2.2.1), kbad hba (by omega) (hS0.2.2.2.2.2.2.2.1), kbad hba (by omega) (hS0.2.2.2.2.2.2.2.2.1), kbad hba (by omega) (hS0.2.2.2.2.2.2.2.2.2.1), kbad hba (by omega) (hS0.2.2.2.2.2.2.2.2.2.2.1), kbad hba (by omega) (hS0.2.2.2.2.2.2.2.2.2.2.2.1), kbad hba (by omega) (hS0.2.2.2.2.2.2.2.2.2.2.2.2.1), kbad hba (by omega) (hS0.2.2.2.2.2.2.2.2.2.2.2.2.2.1), kbad hba (by omega) (hS0.2.2.2.2.2.2.2.2.2.2.2.2.2.2.1), kbad hba (by omega) (hS0.2.2.2.2.2.2.2.2.2.2.2.2.2.2.2.1), kbad hba (by omega) (hS0.2.2.2.2.2.2.2.2.2.2.2.2.2.2.2.2.1), kbad hba (by omega) (hS0.2.2.2.2.2.2.2.2.2.2.2.2.2.2.2.2.2.1), kbad hba (by omega) (hS0.2.2.2.2.2.2.2.2.2.2.2.2.2.2.2.2.2.2.1), kbad hba (by omega) (hS0.2.2.2.2.2.2.2.2.2.2.2.2.2.2.2.2.2.2.2.1), kbad hba (by omega) (hS0.2.2.2.2.2.2.2.2.2.2.2.2.2.2.2.2.2.2.2.2)⟩
  clear hK K
  have hS1 := hS1 (by decide)
  try simp only [Act.put, List.setIfInBounds_toArray, List.set_cons_zero, List.set_cons_succ]
  refine wpAnyX_one (i := 28) (o := _) rfl (by kernel_rfl) (fun K hK => ?_)
  go_simp
  refine (cmulO (x := x2) (y := x3) (z := z || (mulS false x0 x1).2) K2.out K3.out (by exact yf0) (by exact yff 0)).mono ?_
  rintro ee wb ⟨rfl, hbc⟩
  have hzb := bad_size hbc
  have Zf := Bx.bad Yf hbc
  have zf0 := Zf.c 0 rfl
  have zff := Zf.f
  have hSb := bad_step hSa (by omega) hbc (by omega)
  refine hK.out _ _ (fun _ => ?_) (fun hS2 => ?_)
  · exact ⟨kbad hbc (by omega) (hS1.1), kbad hbc (by omega) (hS1.2.1), kbad hbc (by omega) (hS1.2.2.1), kbad hbc (by omega) (hS1.2.2.2.1), kbad hbc (by omega) (hS1.2.2.2.2.1), kbad hbc (by omega) (hS1.2.2.2.2.2.1), kbad hbc (by omega) (hS1.2.2.2.2.2.2.1), kbad hbc (by omega) (hS1.2.2.2.2.2.2.2.1), kbad hbc (by omega) (hS1.2.2.2.2.2.2.2.2.1), kbad hbc (by omega) (hS1.2.2.2.2.2.2.2.2.2.1), kbad hbc (by omega) (hS1.2.2.2.2.2.2.2.2.2.2.1), kbad hbc (by omega) (hS1.2.2.2.2.2.2.2.2.2.2.2.1), kbad hbc (by omega) (hS1.2.2.2.2.2.2.2.2.2.2.2.2.1), kbad hbc (by omega) (hS1.2.2.2.2.2.2.2.2.2.2.2.2.2.1), kbad hbc (by omega) (hS1.2.2.2.2.2.2.2.2.2.2.2.2.2.2.1), kbad hbc (by omega) (hS1.2.2.2.2.2.2.2.2.2.2.2.2.2.2.2.1), kbad hbc (by omega) (hS1.2.2.2.2.2.2.2.2.2.2.2.2.2.2.2.2.1), kbad hbc (by omega) (hS1.2.2.2.2.2.2.2.2.2.2.2.2.2.2.2.2.2.1), kbad hbc (by omega) (hS1.2.2.2.2.2.2.2.2.2.2.2.2.2.2.2.2.2.2.1), kbad hbc (by omega) (hS1.2.2.2.2.2.2.2.2.2.2.2.2.2.2.2.2.2.2.2.1), kbad hbc (by omega) (hS1.2.2.2.2.2.2.2.2.2.2.2.2.2.2.2.2.2.2.2.2)⟩
  clear hK K
  have hS2 := hS2 (by decide)
  try simp only [Act.put, List.setIfInBounds_toArray, List.set_cons_zero, List.set_cons_succ]
  refine wpAnyX_one (i := 29) (o := _) rfl (by kernel_rfl) (fun K hK => ?_)
  go_simp
  refine (l2n5 (x := (mulS false x2 x3).1) (mulS_ok K2.out K3.out) _).mono ?_
  rintro ee wn ⟨rfl, hbn⟩
  have hzn := hbn.size
  have Nf := Zf.mono hbn
  have nf0 := Nf.c 0 rfl
  have nff := Nf.f
  have hSn := chain hSb hbn (by have h9 := hSb.size; rw [World.size_setCell] at h9; exact h9)
  refine hK.out _ _ (fun _ => ?_) (fun hS3 => ?_)
  · exact ⟨kc hbn (hS2.1), kc hbn (hS2.2.1), kc hbn (hS2.2.2.1), kc hbn (hS2.2.2.2.1), kc hbn (hS2.2.2.2.2.1), kc hbn (hS2.2.2.2.2.2.1), kc hbn (hS2.2.2.2.2.2.2.1), kc hbn (hS2.2.2.2.2.2.2.2.1), kc hbn (hS2.2.2.2.2.2.2.2.2.1), kc hbn (hS2.2.2.2.2.2.2.2.2.2.1), kc hbn (hS2.2.2.2.2.2.2.2.2.2.2.1), kc hbn (hS2.2.2.2.2.2.2.2.2.2.2.2.1), kc hbn (hS2.2.2.2.2.2.2.2.2.2.2.2.2.1), kc hbn (hS2.2.2.2.2.2.2.2.2.2.2.2.2.2.1), kc hbn (hS2.2.2.2.2.2.2.2.2.2.2.2.2.2.2.1), kc hbn (hS2.2.2.2.2.2.2.2.2.2.2.2.2.2.2.2.1), kc hbn (hS2.2.2.2.2.2.2.2.2.2.2.2.2.2.2.2.2.1), kc hbn (hS2.2.2.2.2.2.2.2.2.2.2.2.2.2.2.2.2.2.1), kc hbn (hS2.2.2.2.2.2.2.2.2.2.2.2.2.2.2.2.2.2.2.1), kc hbn (hS2.2.2.2.2.2.2.2.2.2.2.2.2.2.2.2.2.2.2.2.1), kc hbn (hS2.2.2.2.2.2.2.2.2.2.2.2.2.2.2.2.2.2.2.2.2)⟩
  clear hK K
  have hS3 := hS3 (by decide)
  try simp only [Act.put, List.setIfInBounds_toArray, List.set_cons_zero, List.set_cons_succ]
  refine wpAnyX_one (i := 30) (o := _) rfl (by kernel_rfl) (fun K hK => ?_)
  go_simp
  refine (caddO (x := (mulS false x0 x1).1) (y := neg5 (mulS false x2 x3).1) (z := z || (mulS false x0 x1).2 || (mulS false x2 x3).2) (mulS_ok K0.out K1.out) (neg5_ok (mulS_ok K2.out K3.out)) (by exact nf0) (by exact nff 0)).mono ?_
  rintro ee wd ⟨rfl, hbd⟩
  have hzd := bad_size hbd
  have hSd := bad_step hSn (by omega) hbd (by omega)
  refine hK.out _ _ (fun _ => ?_) (fun hS4 => ?_)
  · exact ⟨kbad hbd (by omega) (hS3.1), kbad hbd (by omega) (hS3.2.1), kbad hbd (by omega) (hS3.2.2.1), kbad hbd (by omega) (hS3.2.2.2.1), kbad hbd (by omega) (hS3.2.2.2.2.1), kbad hbd (by omega) (hS3.2.2.2.2.2.1), kbad hbd (by omega) (hS3.2.2.2.2.2.2.1), kbad hbd (by omega) (hS3.2.2.2.2.2.2.2.1), kbad hbd (by omega) (hS3.2.2.2.2.2.2.2.2.1), kbad hbd (by omega) (hS3.2.2.2.2.2.2.2.2.2.1), kbad hbd (by omega) (hS3.2.2.2.2.2.2.2.2.2.2.1), kbad hbd (by omega) (hS3.2.2.2.2.2.2.2.2.2.2.2.1), kbad hbd (by omega) (hS3.2.2.2.2.2.2.2.2.2.2.2.2.1), kbad hbd (by omega) (hS3.2.2.2.2.2.2.2.2.2.2.2.2.2.1), kbad hbd (by omega) (hS3.2.2.2.2.2.2.2.2.2.2.2.2.2.2.1), kbad hbd (by omega) (hS3.2.2.2.2.2.2.2.2.2.2.2.2.2.2.2.1), kbad hbd (by omega) (hS3.2.2.2.2.2.2.2.2.2.2.2.2.2.2.2.2.1), kbad hbd (by omega) (hS3.2.2.2.2.2.2.2.2.2.2.2.2.2.2.2.2.2.1), kbad hbd (by omega) (hS3.2.2.2.2.2.2.2.2.2.2.2.2.2.2.2.2.2.2.1), kbad hbd (by omega) (hS3.2.2.2.2.2.2.2.2.2.2.2.2.2.2.2.2.2.2.2.1), kbad hbd (by omega) (hS3.2.2.2.2.2.2.2.2.2.2.2.2.2.2.2.2.2.2.2.2)⟩
  clear hK K
  have hS4 := hS4 (by decide)
  try simp only [Act.put, List.setIfInBounds_toArray, List.set_cons_zero, List.set_cons_succ]
  refine wpAnyX_one (i := 31) (o := _) rfl (by kernel_rfl) (fun K hK => ?_)
  have XR2 := (((XR.badly hbb (by omega)).badly hbc (by omega)).mono hbn).badly hbd (by omega)
  have r0 := XR2.c 0 rfl
  have r1 := XR2.c 1 rfl
  have r2 := XR2.c 2 rfl
  have r3 := XR2.c 3 rfl
  have r4 := XR2.c 4 rfl
  have rf := XR2.f
  go_simp
  refine hK.out _ _ (fun h => absurd rfl h) (fun _ => ?_)
  clear hK K
  try simp only [Act.put, List.setIfInBounds_toArray, List.set_cons_zero, List.set_cons_succ]
  refine wpAnyX_done (by kernel_rfl) ?_ _
  clear hS0 hS1 hS2 hS3 hS4
  (repeat (first | go_values | go_skip | go_guarded | go_step | go_upon))
  refine bodyPost_ret (v := (addS false (mulS false x0 x1).1 (neg5 (mulS false x2 x3).1)).1.v) (by first | (simp [results, Try.results124, go_sem, *]; done) | (simp (disch := (first | omega | (simp; done) | (simp; omega))) [results, Try.results124, go_sem, *]; done) | (simp only [results, Try.results124]; go_simp; done)) rfl ⟨rfl, ?_⟩
  rw [show (z || ((mulS false x0 x1).2 || (mulS false x2 x3).2 || (addS false (mulS false x0 x1).1 (neg5 (mulS false x2 x3).1)).2)) = (z || (mulS false x0 x1).2 || (mulS false x2 x3).2 || (addS false (mulS false x0 x1).1 (neg5 (mulS false x2 x3).1)).2) by simp [Bool.or_assoc]]
  refine set5_below (g := w.heap.size + 1) (o := 0) (x := (addS false (mulS false x0 x1).1 (neg5 (mulS false x2 x3).1)).1) ?_ (by omega)
  exact stp_below hBW hSd hcl

set_option maxRecDepth 100000 in
set_option maxHeartbeats 8000000 in
theorem mnr_s02 {g0 gc cp : Nat} {xs : List D5} {z : Bool} {w : World} (hA : Rd w (some ⟨g0, 0, none⟩) xs) (hl : xs.length = 9) (hok : allB xs = true) (hc : Bx w gc 116 #[.bool z]) (hne : gc ≠ g0) :
    Calls Try.prog 124 #[.pointer (some ⟨gc, 0, none⟩), bv (some ⟨g0, 0, none⟩) 9 cp, .int .i64 0, .int .i64 2] w fun ee w' => ee = .returned (mnr (fun i => xs.getD i z5) 0 2).1.v ∧ Below w.heap.size (w.setCell ⟨gc, 0, none⟩ (.bool (z || (mnr (fun i => xs.getD i z5) 0 2).2))) w' := by
  obtain ⟨x0, hx0⟩ : ∃ x, x = xs.getD 3 z5 := ⟨_, rfl⟩
  have C0 : Cx w g0 15 x0 := by rw [hx0]; exact hA.at9 (i := 3) (by omega)
  have K0 : Hid (x0.ok = true) := by rw [hx0]; exact okD hok (by omega)
  obtain ⟨x1, hx1⟩ : ∃ x, x = xs.getD 8 z5 := ⟨_, rfl⟩
  have C1 : Cx w g0 40 x1 := by rw [hx1]; exact hA.at9 (i := 8) (by omega)
  have K1 : Hid (x1.ok = true) := by rw [hx1]; exact okD hok (by omega)
  obtain ⟨x2, hx2⟩ : ∃ x, x = xs.getD 5 z5 := ⟨_, rfl⟩
  have C2 : Cx w g0 25 x2 := by rw [hx2]; exact hA.at9 (i := 5) (by omega)
  have K2 : Hid (x2.ok = true) := by rw [hx2]; exact okD hok (by omega)
  obtain ⟨x3, hx3⟩ : ∃ x, x = xs.getD 6 z5 := ⟨_, rfl⟩
  have C3 : Cx w g0 30 x3 := by rw [hx3]; exact hA.at9 (i := 6) (by omega)
  have K3 : Hid (x3.ok = true) := by rw [hx3]; exact okD hok (by omega)
  have e1 : (mnr (fun i => xs.getD i z5) 0 2) = ((addS false (mulS false x0 x1).1 (neg5 (mulS false x2 x3).1)).1, (mulS false x0 x1).2 || (mulS false x2 x3).2 || (addS false (mulS false x0 x1).1 (neg5 (mulS false x2 x3).1)).2) := by
    rw [hx0, hx1, hx2, hx3]; rfl
  rw [e1]
  clear e1 hx0 hx1 hx2 hx3 hok hl
  have hgl := C0.lt
  have hcl := hc.lt
  have wr3 : IntKind.i64.wrap (3 : Int) = 3 := IntWalk.i64_in _ (by omega)
  have wr5 : IntKind.i64.wrap (5 : Int) = 5 := IntWalk.i64_in _ (by omega)
  have wr6 : IntKind.i64.wrap (6 : Int) = 6 := IntWalk.i64_in _ (by omega)
  have wr8 : IntKind.i64.wrap (8 : Int) = 8 := IntWalk.i64_in _ (by omega)
  go_enter Try.func124, Try.ntmps124
  go_upto_region 1 with (fail)
  obtain ⟨W, hW⟩ : ∃ W : World, W = (w.alloc (.cells #[.slice (some ⟨g0, 0, none⟩) 9 cp] 51)).alloc (.cells #[.int .i64 0, .int .i64 0, .int .i64 0, .int .i64 0, .int .i64 0] 99) := ⟨_, rfl⟩
  have hBW : Below w.heap.size w W := by rw [hW]; exact ((Below.refl _ _).alloc (Nat.le_refl _) _).alloc (by simp) _
  have XB : Bx W w.heap.size 51 #[.slice (some ⟨g0, 0, none⟩) 9 cp] := by rw [hW]; exact (Bx.new rfl).alloc _
  have XR : Bx W (w.heap.size + 1) 99 #[.int .i64 z5.a, .int .i64 z5.b, .int .i64 z5.c, .int .i64 z5.d, .int .i64 z5.e] := by rw [hW]; exact Bx.new (by simp)
  have hzW : W.heap.size = w.heap.size + 1 + 1 := by rw [hW]; simp
  have XF : Bx W gc 116 #[.bool z] := hc.mono hBW
  have hzW2 : w.heap.size + 1 < W.heap.size := by omega
  rw [← hW]
  clear hW hzW
  have ef0 := XF.c 0 rfl
  have eff := XF.f
  have b0 := XB.c 0 rfl
  obtain ⟨p00, p01, p02, p03, p04⟩ := C0.at_ (hBW.block g0 C0.lt)
  obtain ⟨p10, p11, p12, p13, p14⟩ := C1.at_ (hBW.block g0 C1.lt)
  obtain ⟨p20, p21, p22, p23, p24⟩ := C2.at_ (hBW.block g0 C2.lt)
  obtain ⟨p30, p31, p32, p33, p34⟩ := C3.at_ (hBW.block g0 C3.lt)
  clear C0 C1 C2 C3
  have yb0 : W.drew.cell? ⟨w.heap.size, 0, none⟩ = some (.slice (some ⟨g0, 0, none⟩) 9 cp) := b0
  have yp00 : W.drew.cell? ⟨g0, 15, none⟩ = some (.int .i64 x0.a) := p00
  have yp01 : W.drew.cell? ⟨g0, 16, none⟩ = some (.int .i64 x0.b) := p01
  have yp02 : W.drew.cell? ⟨g0, 17, none⟩ = some (.int .i64 x0.c) := p02
  have yp03 : W.drew.cell? ⟨g0, 18, none⟩ = some (.int .i64 x0.d) := p03
  have yp04 : W.drew.cell? ⟨g0, 19, none⟩ = some (.int .i64 x0.e) := p04
  have yp10 : W.drew.cell? ⟨g0, 40, none⟩ = some (.int .i64 x1.a) := p10
  have yp11 : W.drew.cell? ⟨g0, 41, none⟩ = some (.int .i64 x1.b) := p11
  have yp12 : W.drew.cell? ⟨g0, 42, none⟩ = some (.int .i64 x1.c) := p12
  have yp13 : W.drew.cell? ⟨g0, 43, none⟩ = some (.int .i64 x1.d) := p13
  have yp14 : W.drew.cell? ⟨g0, 44, none⟩ = some (.int .i64 x1.e) := p14
  have yp20 : W.drew.cell? ⟨g0, 25, none⟩ = some (.int .i64 x2.a) := p20
  have yp21 : W.drew.cell? ⟨g0, 26, none⟩ = some (.int .i64 x2.b) := p21
  have yp22 : W.drew.cell? ⟨g0, 27, none⟩ = some (.int .i64 x2.c) := p22
  have yp23 : W.drew.cell? ⟨g0, 28, none⟩ = some (.int .i64 x2.d) := p23
  have yp24 : W.drew.cell? ⟨g0, 29, none⟩ = some (.int .i64 x2.e) := p24
  have yp30 : W.drew.cell? ⟨g0, 30, none⟩ = some (.int .i64 x3.a) := p30
  have yp31 : W.drew.cell? ⟨g0, 31, none⟩ = some (.int .i64 x3.b) := p31
  have yp32 : W.drew.cell? ⟨g0, 32, none⟩ = some (.int .i64 x3.c) := p32
  have yp33 : W.drew.cell? ⟨g0, 33, none⟩ = some (.int .i64 x3.d) := p33
  have yp34 : W.drew.cell? ⟨g0, 34, none⟩ = some (.int .i64 x3.e) := p34
  refine wp_region_x (fun w' => w'.cell? ⟨w.heap.size, 0, none⟩ = some (.slice (some ⟨g0, 0, none⟩) 9 cp) ∧ w'.cell? ⟨g0, 15, none⟩ = some (.int .i64 x0.a) ∧ w'.cell? ⟨g0, 16, none⟩ = some (.int .i64 x0.b) ∧ w'.cell? ⟨g0, 17, none⟩ = some (.int .i64 x0.c) ∧ w'.cell? ⟨g0, 18, none⟩ = some (.int .i64 x0.d) ∧ w'.cell? ⟨g0, 19, none⟩ = some (.int .i64 x0.e) ∧ w'.cell? ⟨g0, 40, none⟩ = some (.int .i64 x1.a) ∧ w'.cell? ⟨g0, 41, none⟩ = some (.int .i64 x1.b) ∧ w'.cell? ⟨g0, 42, none⟩ = some (.int .i64 x1.c) ∧ w'.cell? ⟨g0, 43, none⟩ = some (.int .i64 x1.d) ∧ w'.cell? ⟨g0, 44, none⟩ = some (.int .i64 x1.e) ∧ w'.cell? ⟨g0, 25, none⟩ = some (.int .i64 x2.a) ∧ w'.cell? ⟨g0, 26, none⟩ = some (.int .i64 x2.b) ∧ w'.cell? ⟨g0, 27, none⟩ = some (.int .i64 x2.c) ∧ w'.cell? ⟨g0, 28, none⟩ = some (.int .i64 x2.d) ∧ w'.cell? ⟨g0, 29, none⟩ = some (.int .i64 x2.e) ∧ w'.cell? ⟨g0, 30, none⟩ = some (.int .i64 x3.a) ∧ w'.cell? ⟨g0, 31, none⟩ = some (.int .i64 x3.b) ∧ w'.cell? ⟨g0, 32, none⟩ = some (.int .i64 x3.c) ∧ w'.cell? ⟨g0, 33, none⟩ = some (.int .i64 x3.d) ∧ w'.cell? ⟨g0, 34, none⟩ = some (.int .i64 x3.e)) 31 (by kernel_rfl) ⟨yb0, yp00, yp01, yp02, yp03, yp04, yp10, yp11, yp12, yp13, yp14, yp20, yp21, yp22, yp23, yp24, yp30, yp31, yp32, yp33, yp34⟩ (fun hS0 => ?_)
  refine wpAnyX_take (i := 0) (oi := _) (v := ?_) rfl (by kernel_rfl) (by kernel_rfl) (by kernel_rfl) (by kernel_rfl) (fun _ _ _ h => h) (Or.inl ⟨by rfl, ?_⟩) hS0 ?_
  rotate_left 1
  · (intro w hSw; (try dsimp only at hSw); go_simp; (try with_reducible rfl))
  try simp only [Act.put, List.setIfInBounds_toArray, List.set_cons_zero, List.set_cons_succ]
  refine wpAnyX_take (i := 1) (oi := _) (v := ?_) rfl (by kernel_rfl) (by kernel_rfl) (by kernel_rfl) (by kernel_rfl) (fun _ _ _ h => h) (Or.inl ⟨by rfl, ?_⟩) hS0 ?_
  rotate_left 1
  · (intro w hSw; (try dsimp only at hSw); go_simp; (try with_reducible rfl))
  try simp only [Act.put, List.setIfInBounds_toArray, List.set_cons_zero, List.set_cons_succ]
  refine wpAnyX_take (i := 2) (oi := _) (v := ?_) rfl (by kernel_rfl) (by kernel_rfl) (by kernel_rfl) (by kernel_rfl) (fun _ _ _ h => h) (Or.inl ⟨by rfl, ?_⟩) hS0 ?_
  rotate_left 1
  · (intro w hSw; (try dsimp only at hSw); go_simp; (try with_reducible rfl))
  try simp only [Act.put, List.setIfInBounds_toArray, List.set_cons_zero, List.set_cons_succ]
  refine wpAnyX_take (i := 3) (oi := _) (v := ?_) rfl (by kernel_rfl) (by kernel_rfl) (by kernel_rfl) (by kernel_rfl) (fun _ _ _ h => h) (Or.inl ⟨by rfl, ?_⟩) hS0 ?_
  rotate_left 1
  · (intro w hSw; (try dsimp only at hSw); go_simp; (try with_reducible rfl))
  try simp only [Act.put, List.setIfInBounds_toArray, List.set_cons_zero, List.set_cons_succ]
  refine wpAnyX_take (i := 4) (oi := _) (v := ?_) rfl (by kernel_rfl) (by kernel_rfl) (by kernel_rfl) (by kernel_rfl) (fun _ _ _ h => h) (Or.inl ⟨by rfl, ?_⟩) hS0 ?_
  rotate_left 1
  · (intro w hSw; (try dsimp only at hSw); go_simp; (try with_reducible rfl))
  try simp only [Act.put, List.setIfInBounds_toArray, List.set_cons_zero, List.set_cons_succ]
  refine wpAnyX_take (i := 5) (oi := _) (v := ?_) rfl (by kernel_rfl) (by kernel_rfl) (by kernel_rfl) (by kernel_rfl) (fun _ _ _ h => h) (Or.inl ⟨by rfl, ?_⟩) hS0 ?_
  rotate_left 1
  · (intro w hSw; (try dsimp only at hSw); go_simp; (try with_reducible rfl))
  try simp only [Act.put, List.setIfInBounds_toArray, List.set_cons_zero, List.set_cons_succ]
  refine wpAnyX_take (i := 6) (oi := _) (v := ?_) rfl (by kernel_rfl) (by kernel_rfl) (by kernel_rfl) (by kernel_rfl) (fun _ _ _ h => h) (Or.inl ⟨by rfl, ?_⟩) hS0 ?_
  rotate_left 1
  · (intro w hSw; (try dsimp only at hSw); go_simp; (try with_reducible rfl))
  try simp only [Act.put, List.setIfInBounds_toArray, List.set_cons_zero, List.set_cons_succ]
  refine wpAnyX_take (i := 7) (oi := _) (v := ?_) rfl (by kernel_rfl) (by kernel_rfl) (by kernel_rfl) (by kernel_rfl) (fun _ _ _ h => h) (Or.inl ⟨by rfl, ?_⟩) hS0 ?_
  rotate_left 1
  · (intro w hSw; (try dsimp only at hSw); go_simp; (try with_reducible rfl))
  try simp only [Act.put, List.setIfInBounds_toArray, List.set_cons_zero, List.set_cons_succ]
  refine wpAnyX_take (i := 8) (oi := _) (v := ?_) rfl (by kernel_rfl) (by kernel_rfl) (by kernel_rfl) (by kernel_rfl) (fun _ _ _ h => h) (Or.inl ⟨by rfl, ?_⟩) hS0 ?_
  rotate_left 1
  · (intro w hSw; (try dsimp only at hSw); go_simp; (try with_reducible rfl))
  try simp only [Act.put, List.setIfInBounds_toArray, List.set_cons_zero, List.set_cons_succ]
  refine wpAnyX_take (i := 9) (oi := _) (v := ?_) rfl (by kernel_rfl) (by kernel_rfl) (by kernel_rfl) (by kernel_rfl) (fun _ _ _ h => h) (Or.inl ⟨by rfl, ?_⟩) hS0 ?_
  rotate_left 1
  · (intro w hSw; (try dsimp only at hSw); go_simp; (try with_reducible rfl))
  try simp only [Act.put, List.setIfInBounds_toArray, List.set_cons_zero, List.set_cons_succ]
  refine wpAnyX_take (i := 10) (oi := _) (v := ?_) rfl (by kernel_rfl) (by kernel_rfl) (by kernel_rfl) (by kernel_rfl) (fun _ _ _ h => h) (Or.inl ⟨by rfl, ?_⟩) hS0 ?_
  rotate_left 1
  · (intro w hSw; (try dsimp only at hSw); go_simp; (try with_reducible rfl))
  try simp only [Act.put, List.setIfInBounds_toArray, List.set_cons_zero, List.set_cons_succ]
  refine wpAnyX_take (i := 11) (oi := _) (v := ?_) rfl (by kernel_rfl) (by kernel_rfl) (by kernel_rfl) (by kernel_rfl) (fun _ _ _ h => h) (Or.inl ⟨by rfl, ?_⟩) hS0 ?_
  rotate_left 1
  · (intro w hSw; (try dsimp only at hSw); go_simp; (try with_reducible rfl))
  try simp only [Act.put, List.setIfInBounds_toArray, List.set_cons_zero, List.set_cons_succ]
  refine wpAnyX_take (i := 12) (oi := _) (v := ?_) rfl (by kernel_rfl) (by kernel_rfl) (by kernel_rfl) (by kernel_rfl) (fun _ _ _ h => h) (Or.inl ⟨by rfl, ?_⟩) hS0 ?_
  rotate_left 1
  · (intro w hSw; (try dsimp only at hSw); go_simp; (try with_reducible rfl))
  try simp only [Act.put, List.setIfInBounds_toArray, List.set_cons_zero, List.set_cons_succ]
  refine wpAnyX_take (i := 13) (oi := _) (v := ?_) rfl (by kernel_rfl) (by kernel_rfl) (by kernel_rfl) (by kernel_rfl) (fun _ _ _ h => h) (Or.inl ⟨by rfl, ?_⟩) hS0 ?_
  rotate_left 1
  · (intro w hSw; (try dsimp only at hSw); go_simp; (try with_reducible rfl))
  try simp only [Act.put, List.setIfInBounds_toArray, List.set_cons_zero, List.set_cons_succ]
  refine wpAnyX_take (i := 15) (oi := _) (v := ?_) rfl (by kernel_rfl) (by kernel_rfl) (by kernel_rfl) (by kernel_rfl) (fun _ _ _ h => h) (Or.inl ⟨by rfl, ?_⟩) hS0 ?_
  rotate_left 1
  · (intro w hSw; (try dsimp only at hSw); go_simp; (try with_reducible rfl))
  try simp only [Act.put, List.setIfInBounds_toArray, List.set_cons_zero, List.set_cons_succ]
  refine wpAnyX_take (i := 16) (oi := _) (v := ?_) rfl (by kernel_rfl) (by kernel_rfl) (by kernel_rfl) (by kernel_rfl) (fun _ _ _ h => h) (Or.inl ⟨by rfl, ?_⟩) hS0 ?_
  rotate_left 1
  · (intro w hSw; (try dsimp only at hSw); go_simp; (try with_reducible rfl))
  try simp only [Act.put, List.setIfInBounds_toArray, List.set_cons_zero, List.set_cons_succ]
  refine wpAnyX_take (i := 17) (oi := _) (v := ?_) rfl (by kernel_rfl) (by kernel_rfl) (by kernel_rfl) (by kernel_rfl) (fun _ _ _ h => h) (Or.inl ⟨by rfl, ?_⟩) hS0 ?_
  rotate_left 1
  · (intro w hSw; (try dsimp only at hSw); go_simp; (try with_reducible rfl))
  try simp only [Act.put, List.setIfInBounds_toArray, List.set_cons_zero, List.set_cons_succ]
  refine wpAnyX_take (i := 18) (oi := _) (v := ?_) rfl (by kernel_rfl) (by kernel_rfl) (by kernel_rfl) (by kernel_rfl) (fun _ _ _ h => h) (Or.inl ⟨by rfl, ?_⟩) hS0 ?_
  rotate_left 1
  · (intro w hSw; (try dsimp only at hSw); go_simp; (try with_reducible rfl))
  try simp only [Act.put, List.setIfInBounds_toArray, List.set_cons_zero, List.set_cons_succ]
  refine wpAnyX_take (i := 19) (oi := _) (v := ?_) rfl (by kernel_rfl) (by kernel_rfl) (by kernel_rfl) (by kernel_rfl) (fun _ _ _ h => h) (Or.inl ⟨by rfl, ?_⟩) hS0 ?_
  rotate_left 1
  · (intro w hSw; (try dsimp only at hSw); go_simp; (try with_reducible rfl))
  try simp only [Act.put, List.setIfInBounds_toArray, List.set_cons_zero, List.set_cons_succ]
  refine wpAnyX_take (i := 20) (oi := _) (v := ?_) rfl (by kernel_rfl) (by kernel_rfl) (by kernel_rfl) (by kernel_rfl) (fun _ _ _ h => h) (Or.inl ⟨by rfl, ?_⟩) hS0 ?_
  rotate_left 1
  · (intro w hSw; (try dsimp only at hSw); go_simp; (try with_reducible rfl))
  try simp only [Act.put, List.setIfInBounds_toArray, List.set_cons_zero, List.set_cons_succ]
  refine wpAnyX_take (i := 21) (oi := _) (v := ?_) rfl (by kernel_rfl) (by kernel_rfl) (by kernel_rfl) (by kernel_rfl) (fun _ _ _ h => h) (Or.inl ⟨by rfl, ?_⟩) hS0 ?_
  rotate_left 1
  · (intro w hSw; (try dsimp only at hSw); go_simp; (try with_reducible rfl))
  try simp only [Act.put, List.setIfInBounds_toArray, List.set_cons_zero, List.set_cons_succ]
  refine wpAnyX_take (i := 22) (oi := _) (v := ?_) rfl (by kernel_rfl) (by kernel_rfl) (by kernel_rfl) (by kernel_rfl) (fun _ _ _ h => h) (Or.inl ⟨by rfl, ?_⟩) hS0 ?_
  rotate_left 1
  · (intro w hSw; (try dsimp only at hSw); go_simp; (try with_reducible rfl))
  try simp only [Act.put, List.setIfInBounds_toArray, List.set_cons_zero, List.set_cons_succ]
  refine wpAnyX_take (i := 23) (oi := _) (v := ?_) rfl (by kernel_rfl) (by kernel_rfl) (by kernel_rfl) (by kernel_rfl) (fun _ _ _ h => h) (Or.inl ⟨by rfl, ?_⟩) hS0 ?_
  rotate_left 1
  · (intro w hSw; (try dsimp only at hSw); go_simp; (try with_reducible rfl))
  try simp only [Act.put, List.setIfInBounds_toArray, List.set_cons_zero, List.set_cons_succ]
  refine wpAnyX_take (i := 24) (oi := _) (v := ?_) rfl (by kernel_rfl) (by kernel_rfl) (by kernel_rfl) (by kernel_rfl) (fun _ _ _ h => h) (Or.inl ⟨by rfl, ?_⟩) hS0 ?_
  rotate_left 1
  · (intro w hSw; (try dsimp only at hSw); go_simp; (try with_reducible rfl))
  try simp only [Act.put, List.setIfInBounds_toArray, List.set_cons_zero, List.set_cons_succ]
  refine wpAnyX_take (i := 25) (oi := _) (v := ?_) rfl (by kernel_rfl) (by kernel_rfl) (by kernel_rfl) (by kernel_rfl) (fun _ _ _ h => h) (Or.inl ⟨by rfl, ?_⟩) hS0 ?_
  rotate_left 1
  · (intro w hSw; (try dsimp only at hSw); go_simp; (try with_reducible rfl))
  try simp only [Act.put, List.setIfInBounds_toArray, List.set_cons_zero, List.set_cons_succ]
  refine wpAnyX_take (i := 26) (oi := _) (v := ?_) rfl (by kernel_rfl) (by kernel_rfl) (by kernel_rfl) (by kernel_rfl) (fun _ _ _ h => h) (Or.inl ⟨by rfl, ?_⟩) hS0 ?_
  rotate_left 1
  · (intro w hSw; (try dsimp only at hSw); go_simp; (try with_reducible rfl))
  try simp only [Act.put, List.setIfInBounds_toArray, List.set_cons_zero, List.set_cons_succ]
  refine wpAnyX_take (i := 27) (oi := _) (v := ?_) rfl (by kernel_rfl) (by kernel_rfl) (by kernel_rfl) (by kernel_rfl) (fun _ _ _ h => h) (Or.inl ⟨by rfl, ?_⟩) hS0 ?_
  rotate_left 1
  · (intro w hSw; (try dsimp only at hSw); go_simp; (try with_reducible rfl))
  try simp only [Act.put, List.setIfInBounds_toArray, List.set_cons_zero, List.set_cons_succ]
  refine wpAnyX_one (i := 14) (o := _) rfl (by kernel_rfl) (fun K hK => ?_)
  go_simp
  refine (cmulO (x := x0) (y := x1) (z := z) K0.out K1.out (by exact ef0) (by exact eff 0)).mono ?_
  rintro ee wa ⟨rfl, hba⟩
  have hbb := bad_drew hba
  have hza := bad_size hbb
  have Yf := Bx.bad XF hbb
  have yf0 := Yf.c 0 rfl
  have yff := Yf.f
  have hSa := bad_step (bad_0 (B := W.heap.size) ef0) (by omega) hbb (by omega)
  refine hK.out _ _ (fun _ => ?_) (fun hS1 => ?_)
  · exact ⟨kbad hba (by omega) (hS0.1), kbad hba (by omega) (hS0.2.1), kbad hba (by omega) (hS0.2.2.1), kbad hba (by omega) (hS0.2.2.2.1), kbad hba (by omega) (hS0.2.2.2.2.1), kbad hba (by omega) (hS0.2.2.2.2.2.1), kbad hba (by omega) (hS0.2.2.2.2.2.2.1), kbad hba (by omega) (hS0.2.2.2.2.2.2.2.1), kbad hba (by omega) (hS0.2.2.2.2.2.2.2.2.1), kbad hba (by omega) (hS0.2.2.2.2.2.2.2.2.2.1), kbad hba (by omega) (hS0.2.2.2.2.2.2.2.2.2.2.1), kbad hba (by omega) (hS0.2.2.2.2.2.2.2.2.2.2.2.1), kbad hba (by omega) (hS0.2.2.2.2.2.2.2.2.2.2.2.2.1), kbad hba (by omega) (hS0.2.2.2.2.2.2.2.2.2.2.2.2.2.1), kbad hba (by omega) (hS0.2.2.2.2.2.2.2.2.2.2.2.2.2.2.1), kbad hba (by omega) (hS0.2.2.2.2.2.2.2.2.2.2.2.2.2.2.2.1), kbad hba (by omega) (hS0.2.2.2.2.2.2.2.2.2.2.2.2.2.2.2.2.1), kbad hba (by omega) (hS0.2.2.2.2.2.2.2.2.2.2.2.2.2.2.2.2.2.1), kbad hba (by omega) (hS0.2.2.2.2.2.2.2.2.2.2.2.2.2.2.2.2.2.2.1), kbad hba (by omega) (hS0.2.2.2.2.2.2.2.2.2.2.2.2.2.2.2.2.2.2.2.1), kbad hba (by omega) (hS0.2.2.2.2.2.2.2.2.2.2.2.2.2.2.2.2.2.2.2.2)⟩
  clear hK K
  have hS1 := hS1 (by decide)
  try simp only [Act.put, List.setIfInBounds_toArray, List.set_cons_zero, List.set_cons_succ]
  refine wpAnyX_one (i := 28) (o := _) rfl (by kernel_rfl) (fun K hK => ?_)
  go_simp
  refine (cmulO (x := x2) (y := x3) (z := z || (mulS false x0 x1).2) K2.out K3.out (by exact yf0) (by exact yff 0)).mono ?_
  rintro ee wb ⟨rfl, hbc⟩
  have hzb := bad_size hbc
  have Zf := Bx.bad Yf hbc
  have zf0 := Zf.c 0 rfl
  have zff := Zf.f
  have hSb := bad_step hSa (by omega) hbc (by omega)
  refine hK.out _ _ (fun _ => ?_) (fun hS2 => ?_)
  · exact ⟨kbad hbc (by omega) (hS1.1), kbad hbc (by omega) (hS1.2.1), kbad hbc (by omega) (hS1.2.2.1), kbad hbc (by omega) (hS1.2.2.2.1), kbad hbc (by omega) (hS1.2.2.2.2.1), kbad hbc (by omega) (hS1.2.2.2.2.2.1), kbad hbc (by omega) (hS1.2.2.2.2.2.2.1), kbad hbc (by omega) (hS1.2.2.2.2.2.2.2.1), kbad hbc (by omega) (hS1.2.2.2.2.2.2.2.2.1), kbad hbc (by omega) (hS1.2.2.2.2.2.2.2.2.2.1), kbad hbc (by omega) (hS1.2.2.2.2.2.2.2.2.2.2.1), kbad hbc (by omega) (hS1.2.2.2.2.2.2.2.2.2.2.2.1), kbad hbc (by omega) (hS1.2.2.2.2.2.2.2.2.2.2.2.2.1), kbad hbc (by omega) (hS1.2.2.2.2.2.2.2.2.2.2.2.2.2.1), kbad hbc (by omega) (hS1.2.2.2.2.2.2.2.2.2.2.2.2.2.2.1), kbad hbc (by omega) (hS1.2.2.2.2.2.2.2.2.2.2.2.2.2.2.2.1), kbad hbc (by omega) (hS1.2.2.2.2.2.2.2.2.2.2.2.2.2.2.2.2.1), kbad hbc (by omega) (hS1.2.2.2.2.2.2.2.2.2.2.2.2.2.2.2.2.2.1), kbad hbc (by omega) (hS1.2.2.2.2.2.2.2.2.2.2.2.2.2.2.2.2.2.2.1), kbad hbc (by omega) (hS1.2.2.2.2.2.2.2.2.2.2.2.2.2.2.2.2.2.2.2.1), kbad hbc (by omega) (hS1.2.2.2.2.2.2.2.2.2.2.2.2.2.2.2.2.2.2.2.2)⟩
  clear hK K
  have hS2 := hS2 (by decide)
  try simp only [Act.put, List.setIfInBounds_toArray, List.set_cons_zero, List.set_cons_succ]
  refine wpAnyX_one (i := 29) (o := _) rfl (by kernel_rfl) (fun K hK => ?_)
  go_simp
  refine (l2n5 (x := (mulS false x2 x3).1) (mulS_ok K2.out K3.out) _).mono ?_
  rintro ee wn ⟨rfl, hbn⟩
  have hzn := hbn.size
  have Nf := Zf.mono hbn
  have nf0 := Nf.c 0 rfl
  have nff := Nf.f
  have hSn := chain hSb hbn (by have h9 := hSb.size; rw [World.size_setCell] at h9; exact h9)
  refine hK.out _ _ (fun _ => ?_) (fun hS3 => ?_)
  · exact ⟨kc hbn (hS2.1), kc hbn (hS2.2.1), kc hbn (hS2.2.2.1), kc hbn (hS2.2.2.2.1), kc hbn (hS2.2.2.2.2.1), kc hbn (hS2.2.2.2.2.2.1), kc hbn (hS2.2.2.2.2.2.2.1), kc hbn (hS2.2.2.2.2.2.2.2.1), kc hbn (hS2.2.2.2.2.2.2.2.2.1), kc hbn (hS2.2.2.2.2.2.2.2.2.2.1), kc hbn (hS2.2.2.2.2.2.2.2.2.2.2.1), kc hbn (hS2.2.2.2.2.2.2.2.2.2.2.2.1), kc hbn (hS2.2.2.2.2.2.2.2.2.2.2.2.2.1), kc hbn (hS2.2.2.2.2.2.2.2.2.2.2.2.2.2.1), kc hbn (hS2.2.2.2.2.2.2.2.2.2.2.2.2.2.2.1), kc hbn (hS2.2.2.2.2.2.2.2.2.2.2.2.2.2.2.2.1), kc hbn (hS2.2.2.2.2.2.2.2.2.2.2.2.2.2.2.2.2.1), kc hbn (hS2.2.2.2.2.2.2.2.2.2.2.2.2.2.2.2.2.2.1), kc hbn (hS2.2.2.2.2.2.2.2.2.2.2.2.2.2.2.2.2.2.2.1), kc hbn (hS2.2.2.2.2.2.2.2.2.2.2.2.2.2.2.2.2.2.2.2.1), kc hbn (hS2.2.2.2.2.2.2.2.2.2.2.2.2.2.2.2.2.2.2.2.2)⟩
  clear hK K
  have hS3 := hS3 (by decide)
  try simp only [Act.put, List.setIfInBounds_toArray, List.set_cons_zero, List.set_cons_succ]
  refine wpAnyX_one (i := 30) (o := _) rfl (by kernel_rfl) (fun K hK => ?_)
  go_simp
  refine (caddO (x := (mulS false x0 x1).1) (y := neg5 (mulS false x2 x3).1) (z := z || (mulS false x0 x1).2 || (mulS false x2 x3).2) (mulS_ok K0.out K1.out) (neg5_ok (mulS_ok K2.out K3.out)) (by exact nf0) (by exact nff 0)).mono ?_
  rintro ee wd ⟨rfl, hbd⟩
  have hzd := bad_size hbd
  have hSd := bad_step hSn (by omega) hbd (by omega)
  refine hK.out _ _ (fun _ => ?_) (fun hS4 => ?_)
  · exact ⟨kbad hbd (by omega) (hS3.1), kbad hbd (by omega) (hS3.2.1), kbad hbd (by omega) (hS3.2.2.1), kbad hbd (by omega) (hS3.2.2.2.1), kbad hbd (by omega) (hS3.2.2.2.2.1), kbad hbd (by omega) (hS3.2.2.2.2.2.1), kbad hbd (by omega) (hS3.2.2.2.2.2.2.1), kbad hbd (by omega) (hS3.2.2.2.2.2.2.2.1), kbad hbd (by omega) (hS3.2.2.2.2.2.2.2.2.1), kbad hbd (by omega) (hS3.2.2.2.2.2.2.2.2.2.1), kbad hbd (by omega) (hS3.2.2.2.2.2.2.2.2.2.2.1), kbad hbd (by omega) (hS3.2.2.2.2.2.2.2.2.2.2.2.1), kbad hbd (by omega) (hS3.2.2.2.2.2.2.2.2.2.2.2.2.1), kbad hbd (by omega) (hS3.2.2.2.2.2.2.2.2.2.2.2.2.2.1), kbad hbd (by omega) (hS3.2.2.2.2.2.2.2.2.2.2.2.2.2.2.1), kbad hbd (by omega) (hS3.2.2.2.2.2.2.2.2.2.2.2.2.2.2.2.1), kbad hbd (by omega) (hS3.2.2.2.2.2.2.2.2.2.2.2.2.2.2.2.2.1), kbad hbd (by omega) (hS3.2.2.2.2.2.2.2.2.2.2.2.2.2.2.2.2.2.1), kbad hbd (by omega) (hS3.2.2.2.2.2.2.2.2.2.2.2.2.2.2.2.2.2.2.1), kbad hbd (by omega) (hS3.2.2.2.2.2.2.2.2.2.2.2.2.2.2.2.2.2.2.2.1), kbad hbd (by omega) (hS3.2.2.2.2.2.2.2.2.2.2.2.2.2.2.2.2.2.2.2.2)⟩
  clear hK K
  have hS4 := hS4 (by decide)
  try simp only [Act.put, List.setIfInBounds_toArray, List.set_cons_zero, List.set_cons_succ]
  refine wpAnyX_one (i := 31) (o := _) rfl (by kernel_rfl) (fun K hK => ?_)
  have XR2 := (((XR.badly hbb (by omega)).badly hbc (by omega)).mono hbn).badly hbd (by omega)
  have r0 := XR2.c 0 rfl
  have r1 := XR2.c 1 rfl
  have r2 := XR2.c 2 rfl
  have r3 := XR2.c 3 rfl
  have r4 := XR2.c 4 rfl
  have rf := XR2.f
  go_simp
  refine hK.out _ _ (fun h => absurd rfl h) (fun _ => ?_)
  clear hK K
  try simp only [Act.put, List.setIfInBounds_toArray, List.set_cons_zero, List.set_cons_succ]
  refine wpAnyX_done (by kernel_rfl) ?_ _
  clear hS0 hS1 hS2 hS3 hS4
  (repeat (first | go_values | go_skip | go_guarded | go_step | go_upon))
  refine bodyPost_ret (v := (addS false (mulS false x0 x1).1 (neg5 (mulS false x2 x3).1)).1.v) (by first | (simp [results, Try.results124, go_sem, *]; done) | (simp (disch := (first | omega | (simp; done) | (simp; omega))) [results, Try.results124, go_sem, *]; done) | (simp only [results, Try.results124]; go_simp; done)) rfl ⟨rfl, ?_⟩
  rw [show (z || ((mulS false x0 x1).2 || (mulS false x2 x3).2 || (addS false (mulS false x0 x1).1 (neg5 (mulS false x2 x3).1)).2)) = (z || (mulS false x0 x1).2 || (mulS false x2 x3).2 || (addS false (mulS false x0 x1).1 (neg5 (mulS false x2 x3).1)).2) by simp [Bool.or_assoc]]
  refine set5_below (g := w.heap.size + 1) (o := 0) (x := (addS false (mulS false x0 x1).1 (neg5 (mulS false x2 x3).1)).1) ?_ (by omega)
  exact stp_below hBW hSd hcl

set_option maxRecDepth 100000 in
set_option maxHeartbeats 8000000 in
theorem mnr_s01 {g0 gc cp : Nat} {xs : List D5} {z : Bool} {w : World} (hA : Rd w (some ⟨g0, 0, none⟩) xs) (hl : xs.length = 9) (hok : allB xs = true) (hc : Bx w gc 116 #[.bool z]) (hne : gc ≠ g0) :
    Calls Try.prog 124 #[.pointer (some ⟨gc, 0, none⟩), bv (some ⟨g0, 0, none⟩) 9 cp, .int .i64 0, .int .i64 1] w fun ee w' => ee = .returned (mnr (fun i => xs.getD i z5) 0 1).1.v ∧ Below w.heap.size (w.setCell ⟨gc, 0, none⟩ (.bool (z || (mnr (fun i => xs.getD i z5) 0 1).2))) w' := by
  obtain ⟨x0, hx0⟩ : ∃ x, x = xs.getD 3 z5 := ⟨_, rfl⟩
  have C0 : Cx w g0 15 x0 := by rw [hx0]; exact hA.at9 (i := 3) (by omega)
  have K0 : Hid (x0.ok = true) := by rw [hx0]; exact okD hok (by omega)
  obtain ⟨x1, hx1⟩ : ∃ x, x = xs.getD 7 z5 := ⟨_, rfl⟩
  have C1 : Cx w g0 35 x1 := by rw [hx1]; exact hA.at9 (i := 7) (by omega)
  have K1 : Hid (x1.ok = true) := by rw [hx1]; exact okD hok (by omega)
  obtain ⟨x2, hx2⟩ : ∃ x, x = xs.getD 4 z5 := ⟨_, rfl⟩
  have C2 : Cx w g0 20 x2 := by rw [hx2]; exact hA.at9 (i := 4) (by omega)
  have K2 : Hid (x2.ok = true) := by rw [hx2]; exact okD hok (by omega)
  obtain ⟨x3, hx3⟩ : ∃ x, x = xs.getD 6 z5 := ⟨_, rfl⟩
  have C3 : Cx w g0 30 x3 := by rw [hx3]; exact hA.at9 (i := 6) (by omega)
  have K3 : Hid (x3.ok = true) := by rw [hx3]; exact okD hok (by omega)
  have e1 : (mnr (fun i => xs.getD i z5) 0 1) = ((addS false (mulS false x0 x1).1 (neg5 (mulS false x2 x3).1)).1, (mulS false x0 x1).2 || (mulS false x2 x3).2 || (addS false (mulS false x0 x1).1 (neg5 (mulS false x2 x3).1)).2) := by
    rw [hx0, hx1, hx2, hx3]; rfl
  rw [e1]
  clear e1 hx0 hx1 hx2 hx3 hok hl
  have hgl := C0.lt
  have hcl := hc.lt
  have wr3 : IntKind.i64.wrap (3 : Int) = 3 := IntWalk.i64_in _ (by omega)
  have wr4 : IntKind.i64.wrap (4 : Int) = 4 := IntWalk.i64_in _ (by omega)
  have wr6 : IntKind.i64.wrap (6 : Int) = 6 := IntWalk.i64_in _ (by omega)
  have wr7 : IntKind.i64.wrap (7 : Int) = 7 := IntWalk.i64_in _ (by omega)
  go_enter Try.func124, Try.ntmps124
  go_upto_region 1 with (fail)
  obtain ⟨W, hW⟩ : ∃ W : World, W = (w.alloc (.cells #[.slice (some ⟨g0, 0, none⟩) 9 cp] 51)).alloc (.cells #[.int .i64 0, .int .i64 0, .int .i64 0, .int .i64 0, .int .i64 0] 99) := ⟨_, rfl⟩
  have hBW : Below w.heap.size w W := by rw [hW]; exact ((Below.refl _ _).alloc (Nat.le_refl _) _).alloc (by simp) _
  have XB : Bx W w.heap.size 51 #[.slice (some ⟨g0, 0, none⟩) 9 cp] := by rw [hW]; exact (Bx.new rfl).alloc _
  have XR : Bx W (w.heap.size + 1) 99 #[.int .i64 z5.a, .int .i64 z5.b, .int .i64 z5.c, .int .i64 z5.d, .int .i64 z5.e] := by rw [hW]; exact Bx.new (by simp)
  have hzW : W.heap.size = w.heap.size + 1 + 1 := by rw [hW]; simp
  have XF : Bx W gc 116 #[.bool z] := hc.mono hBW
  have hzW2 : w.heap.size + 1 < W.heap.size := by omega
  rw [← hW]
  clear hW hzW
  have ef0 := XF.c 0 rfl
  have eff := XF.f
  have b0 := XB.c 0 rfl
  obtain ⟨p00, p01, p02, p03, p04⟩ := C0.at_ (hBW.block g0 C0.lt)
  obtain ⟨p10, p11, p12, p13, p14⟩ := C1.at_ (hBW.block g0 C1.lt)
  obtain ⟨p20, p21, p22, p23, p24⟩ := C2.at_ (hBW.block g0 C2.lt)
  obtain ⟨p30, p31, p32, p33, p34⟩ := C3.at_ (hBW.block g0 C3.lt)
  clear C0 C1 C2 C3
  have yb0 : W.drew.cell? ⟨w.heap.size, 0, none⟩ = some (.slice (some ⟨g0, 0, none⟩) 9 cp) := b0
  have yp00 : W.drew.cell? ⟨g0, 15, none⟩ = some (.int .i64 x0.a) := p00
  have yp01 : W.drew.cell? ⟨g0, 16, none⟩ = some (.int .i64 x0.b) := p01
  have yp02 : W.drew.cell? ⟨g0, 17, none⟩ = some (.int .i64 x0.c) := p02
  have yp03 : W.drew.cell? ⟨g0, 18, none⟩ = some (.int .i64 x0.d) := p03
  have yp04 : W.drew.cell? ⟨g0, 19, none⟩ = some (.int .i64 x0.e) := p04
  have yp10 : W.drew.cell? ⟨g0, 35, none⟩ = some (.int .i64 x1.a) := p10
  have yp11 : W.drew.cell? ⟨g0, 36, none⟩ = some (.int .i64 x1.b) := p11
  have yp12 : W.drew.cell? ⟨g0, 37, none⟩ = some (.int .i64 x1.c) := p12
  have yp13 : W.drew.cell? ⟨g0, 38, none⟩ = some (.int .i64 x1.d) := p13
  have yp14 : W.drew.cell? ⟨g0, 39, none⟩ = some (.int .i64 x1.e) := p14
  have yp20 : W.drew.cell? ⟨g0, 20, none⟩ = some (.int .i64 x2.a) := p20
  have yp21 : W.drew.cell? ⟨g0, 21, none⟩ = some (.int .i64 x2.b) := p21
  have yp22 : W.drew.cell? ⟨g0, 22, none⟩ = some (.int .i64 x2.c) := p22
  have yp23 : W.drew.cell? ⟨g0, 23, none⟩ = some (.int .i64 x2.d) := p23
  have yp24 : W.drew.cell? ⟨g0, 24, none⟩ = some (.int .i64 x2.e) := p24
  have yp30 : W.drew.cell? ⟨g0, 30, none⟩ = some (.int .i64 x3.a) := p30
  have yp31 : W.drew.cell? ⟨g0, 31, none⟩ = some (.int .i64 x3.b) := p31
  have yp32 : W.drew.cell? ⟨g0, 32, none⟩ = some (.int .i64 x3.c) := p32
  have yp33 : W.drew.cell? ⟨g0, 33, none⟩ = some (.int .i64 x3.d) := p33
  have yp34 : W.drew.cell? ⟨g0, 34, none⟩ = some (.int .i64 x3.e) := p34
  refine wp_region_x (fun w' => w'.cell? ⟨w.heap.size, 0, none⟩ = some (.slice (some ⟨g0, 0, none⟩) 9 cp) ∧ w'.cell? ⟨g0, 15, none⟩ = some (.int .i64 x0.a) ∧ w'.cell? ⟨g0, 16, none⟩ = some (.int .i64 x0.b) ∧ w'.cell? ⟨g0, 17, none⟩ = some (.int .i64 x0.c) ∧ w'.cell? ⟨g0, 18, none⟩ = some (.int .i64 x0.d) ∧ w'.cell? ⟨g0, 19, none⟩ = some (.int .i64 x0.e) ∧ w'.cell? ⟨g0, 35, none⟩ = some (.int .i64 x1.a) ∧ w'.cell? ⟨g0, 36, none⟩ = some (.int .i64 x1.b) ∧ w'.cell? ⟨g0, 37, none⟩ = some (.int .i64 x1.c) ∧ w'.cell? ⟨g0, 38, none⟩ = some (.int .i64 x1.d) ∧ w'.cell? ⟨g0, 39, none⟩ = some (.int .i64 x1.e) ∧ w'.cell? ⟨g0, 20, none⟩ = some (.int .i64 x2.a) ∧ w'.cell? ⟨g0, 21, none⟩ = some (.int .i64 x2.b) ∧ w'.cell? ⟨g0, 22, none⟩ = some (.int .i64 x2.c) ∧ w'.cell? ⟨g0, 23, none⟩ = some (.int .i64 x2.d) ∧ w'.cell? ⟨g0, 24, none⟩ = some (.int .i64 x2.e) ∧ w'.cell? ⟨g0, 30, none⟩ = some (.int .i64 x3.a) ∧ w'.cell? ⟨g0, 31, none⟩ = some (.int .i64 x3.b) ∧ w'.cell? ⟨g0, 32, none⟩ = some (.int .i64 x3.c) ∧ w'.cell? ⟨g0, 33, none⟩ = some (.int .i64 x3.d) ∧ w'.cell? ⟨g0, 34, none⟩ = some (.int .i64 x3.e)) 31 (by kernel_rfl) ⟨yb0, yp00, yp01, yp02, yp03, yp04, yp10, yp11, yp12, yp13, yp14, yp20, yp21, yp22, yp23, yp24, yp30, yp31, yp32, yp33, yp34⟩ (fun hS0 => ?_)
  refine wpAnyX_take (i := 0) (oi := _) (v := ?_) rfl (by kernel_rfl) (by kernel_rfl) (by kernel_rfl) (by kernel_rfl) (fun _ _ _ h => h) (Or.inl ⟨by rfl, ?_⟩) hS0 ?_
  rotate_left 1
  · (intro w hSw; (try dsimp only at hSw); go_simp; (try with_reducible rfl))
  try simp only [Act.put, List.setIfInBounds_toArray, List.set_cons_zero, List.set_cons_succ]
  refine wpAnyX_take (i := 1) (oi := _) (v := ?_) rfl (by kernel_rfl) (by kernel_rfl) (by kernel_rfl) (by kernel_rfl) (fun _ _ _ h => h) (Or.inl ⟨by rfl, ?_⟩) hS0 ?_
  rotate_left 1
  · (intro w hSw; (try dsimp only at hSw); go_simp; (try with_reducible rfl))
  try simp only [Act.put, List.setIfInBounds_toArray, List.set_cons_zero, List.set_cons_succ]
  refine wpAnyX_take (i := 2) (oi := _) (v := ?_) rfl (by kernel_rfl) (by kernel_rfl) (by kernel_rfl) (by kernel_rfl) (fun _ _ _ h => h) (Or.inl ⟨by rfl, ?_⟩) hS0 ?_
  rotate_left 1
  · (intro w hSw; (try dsimp only at hSw); go_simp; (try with_reducible rfl))
  try simp only [Act.put, List.setIfInBounds_toArray, List.set_cons_zero, List.set_cons_succ]
  refine wpAnyX_take (i := 3) (oi := _) (v := ?_) rfl (by kernel_rfl) (by kernel_rfl) (by kernel_rfl) (by kernel_rfl) (fun _ _ _ h => h) (Or.inl ⟨by rfl, ?_⟩) hS0 ?_
  rotate_left 1
  · (intro w hSw; (try dsimp only at hSw); go_simp; (try with_reducible rfl))
  try simp only [Act.put, List.setIfInBounds_toArray, List.set_cons_zero, List.set_cons_succ]
  refine wpAnyX_take (i := 4) (oi := _) (v := ?_) rfl (by kernel_rfl) (by kernel_rfl) (by kernel_rfl) (by kernel_rfl) (fun _ _ _ h => h) (Or.inl ⟨by rfl, ?_⟩) hS0 ?_
  rotate_left 1
  · (intro w hSw; (try dsimp only at hSw); go_simp; (try with_reducible rfl))
  try simp only [Act.put, List.setIfInBounds_toArray, List.set_cons_zero, List.set_cons_succ]
  refine wpAnyX_take (i := 5) (oi := _) (v := ?_) rfl (by kernel_rfl) (by kernel_rfl) (by kernel_rfl) (by kernel_rfl) (fun _ _ _ h => h) (Or.inl ⟨by rfl, ?_⟩) hS0 ?_
  rotate_left 1
  · (intro w hSw; (try dsimp only at hSw); go_simp; (try with_reducible rfl))
  try simp only [Act.put, List.setIfInBounds_toArray, List.set_cons_zero, List.set_cons_succ]
  refine wpAnyX_take (i := 6) (oi := _) (v := ?_) rfl (by kernel_rfl) (by kernel_rfl) (by kernel_rfl) (by kernel_rfl) (fun _ _ _ h => h) (Or.inl ⟨by rfl, ?_⟩) hS0 ?_
  rotate_left 1
  · (intro w hSw; (try dsimp only at hSw); go_simp; (try with_reducible rfl))
  try simp only [Act.put, List.setIfInBounds_toArray, List.set_cons_zero, List.set_cons_succ]
  refine wpAnyX_take (i := 7) (oi := _) (v := ?_) rfl (by kernel_rfl) (by kernel_rfl) (by kernel_rfl) (by kernel_rfl) (fun _ _ _ h => h) (Or.inl ⟨by rfl, ?_⟩) hS0 ?_
  rotate_left 1
  · (intro w hSw; (try dsimp only at hSw); go_simp; (try with_reducible rfl))
  try simp only [Act.put, List.setIfInBounds_toArray, List.set_cons_zero, List.set_cons_succ]
  refine wpAnyX_take (i := 8) (oi := _) (v := ?_) rfl (by kernel_rfl) (by kernel_rfl) (by kernel_rfl) (by kernel_rfl) (fun _ _ _ h => h) (Or.inl ⟨by rfl, ?_⟩) hS0 ?_
  rotate_left 1
  · (intro w hSw; (try dsimp only at hSw); go_simp; (try with_reducible rfl))
  try simp only [Act.put, List.setIfInBounds_toArray, List.set_cons_zero, List.set_cons_succ]
  refine wpAnyX_take (i := 9) (oi := _) (v := ?_) rfl (by kernel_rfl) (by kernel_rfl) (by kernel_rfl) (by kernel_rfl) (fun _ _ _ h => h) (Or.inl ⟨by rfl, ?_⟩) hS0 ?_
  rotate_left 1
  · (intro w hSw; (try dsimp only at hSw); go_simp; (try with_reducible rfl))
  try simp only [Act.put, List.setIfInBounds_toArray, List.set_cons_zero, List.set_cons_succ]
  refine wpAnyX_take (i := 10) (oi := _) (v := ?_) rfl (by kernel_rfl) (by kernel_rfl) (by kernel_rfl) (by kernel_rfl) (fun _ _ _ h => h) (Or.inl ⟨by rfl, ?_⟩) hS0 ?_
  rotate_left 1
  · (intro w hSw; (try dsimp only at hSw); go_simp; (try with_reducible rfl))
  try simp only [Act.put, List.setIfInBounds_toArray, List.set_cons_zero, List.set_cons_succ]
  refine wpAnyX_take (i := 11) (oi := _) (v := ?_) rfl (by kernel_rfl) (by kernel_rfl) (by kernel_rfl) (by kernel_rfl) (fun _ _ _ h => h) (Or.inl ⟨by rfl, ?_⟩) hS0 ?_
  rotate_left 1
  · (intro w hSw; (try dsimp only at hSw); go_simp; (try with_reducible rfl))
  try simp only [Act.put, List.setIfInBounds_toArray, List.set_cons_zero, List.set_cons_succ]
  refine wpAnyX_take (i := 12) (oi := _) (v := ?_) rfl (by kernel_rfl) (by kernel_rfl) (by kernel_rfl) (by kernel_rfl) (fun _ _ _ h => h) (Or.inl ⟨by rfl, ?_⟩) hS0 ?_
  rotate_left 1
  · (intro w hSw; (try dsimp only at hSw); go_simp; (try with_reducible rfl))
  try simp only [Act.put, List.setIfInBounds_toArray, List.set_cons_zero, List.set_cons_succ]
  refine wpAnyX_take (i := 13) (oi := _) (v := ?_) rfl (by kernel_rfl) (by kernel_rfl) (by kernel_rfl) (by kernel_rfl) (fun _ _ _ h => h) (Or.inl ⟨by rfl, ?_⟩) hS0 ?_
  rotate_left 1
  · (intro w hSw; (try dsimp only at hSw); go_simp; (try with_reducible rfl))
  try simp only [Act.put, List.setIfInBounds_toArray, List.set_cons_zero, List.set_cons_succ]
  refine wpAnyX_take (i := 15) (oi := _) (v := ?_) rfl (by kernel_rfl) (by kernel_rfl) (by kernel_rfl) (by kernel_rfl) (fun _ _ _ h => h) (Or.inl ⟨by rfl, ?_⟩) hS0 ?_
  rotate_left 1
  · (intro w hSw; (try dsimp only at hSw); go_simp; (try with_reducible rfl))
  try simp only [Act.put, List.setIfInBounds_toArray, List.set_cons_zero, List.set_cons_succ]
  refine wpAnyX_take (i := 16) (oi := _) (v := ?_) rfl (by kernel_rfl) (by kernel_rfl) (by kernel_rfl) (by kernel_rfl) (fun _ _ _ h => h) (Or.inl ⟨by rfl, ?_⟩) hS0 ?_
  rotate_left 1
  · (intro w hSw; (try dsimp only at hSw); go_simp; (try with_reducible rfl))
  try simp only [Act.put, List.setIfInBounds_toArray, List.set_cons_zero, List.set_cons_succ]
  refine wpAnyX_take (i := 17) (oi := _) (v := ?_) rfl (by kernel_rfl) (by kernel_rfl) (by kernel_rfl) (by kernel_rfl) (fun _ _ _ h => h) (Or.inl ⟨by rfl, ?_⟩) hS0 ?_
  rotate_left 1
  · (intro w hSw; (try dsimp only at hSw); go_simp; (try with_reducible rfl))
  try simp only [Act.put, List.setIfInBounds_toArray, List.set_cons_zero, List.set_cons_succ]
  refine wpAnyX_take (i := 18) (oi := _) (v := ?_) rfl (by kernel_rfl) (by kernel_rfl) (by kernel_rfl) (by kernel_rfl) (fun _ _ _ h => h) (Or.inl ⟨by rfl, ?_⟩) hS0 ?_
  rotate_left 1
  · (intro w hSw; (try dsimp only at hSw); go_simp; (try with_reducible rfl))
  try simp only [Act.put, List.setIfInBounds_toArray, List.set_cons_zero, List.set_cons_succ]
  refine wpAnyX_take (i := 19) (oi := _) (v := ?_) rfl (by kernel_rfl) (by kernel_rfl) (by kernel_rfl) (by kernel_rfl) (fun _ _ _ h => h) (Or.inl ⟨by rfl, ?_⟩) hS0 ?_
  rotate_left 1
  · (intro w hSw; (try dsimp only at hSw); go_simp; (try with_reducible rfl))
  try simp only [Act.put, List.setIfInBounds_toArray, List.set_cons_zero, List.set_cons_succ]
  refine wpAnyX_take (i := 20) (oi := _) (v := ?_) rfl (by kernel_rfl) (by kernel_rfl) (by kernel_rfl) (by kernel_rfl) (fun _ _ _ h => h) (Or.inl ⟨by rfl, ?_⟩) hS0 ?_
  rotate_left 1
  · (intro w hSw; (try dsimp only at hSw); go_simp; (try with_reducible rfl))
  try simp only [Act.put, List.setIfInBounds_toArray, List.set_cons_zero, List.set_cons_succ]
  refine wpAnyX_take (i := 21) (oi := _) (v := ?_) rfl (by kernel_rfl) (by kernel_rfl) (by kernel_rfl) (by kernel_rfl) (fun _ _ _ h => h) (Or.inl ⟨by rfl, ?_⟩) hS0 ?_
  rotate_left 1
  · (intro w hSw; (try dsimp only at hSw); go_simp; (try with_reducible rfl))
  try simp only [Act.put, List.setIfInBounds_toArray, List.set_cons_zero, List.set_cons_succ]
  refine wpAnyX_take (i := 22) (oi := _) (v := ?_) rfl (by kernel_rfl) (by kernel_rfl) (by kernel_rfl) (by kernel_rfl) (fun _ _ _ h => h) (Or.inl ⟨by rfl, ?_⟩) hS0 ?_
  rotate_left 1
  · (intro w hSw; (try dsimp only at hSw); go_simp; (try with_reducible rfl))
  try simp only [Act.put, List.setIfInBounds_toArray, List.set_cons_zero, List.set_cons_succ]
  refine wpAnyX_take (i := 23) (oi := _) (v := ?_) rfl (by kernel_rfl) (by kernel_rfl) (by kernel_rfl) (by kernel_rfl) (fun _ _ _ h => h) (Or.inl ⟨by rfl, ?_⟩) hS0 ?_
  rotate_left 1
  · (intro w hSw; (try dsimp only at hSw); go_simp; (try with_reducible rfl))
  try simp only [Act.put, List.setIfInBounds_toArray, List.set_cons_zero, List.set_cons_succ]
  refine wpAnyX_take (i := 24) (oi := _) (v := ?_) rfl (by kernel_rfl) (by kernel_rfl) (by kernel_rfl) (by kernel_rfl) (fun _ _ _ h => h) (Or.inl ⟨by rfl, ?_⟩) hS0 ?_
  rotate_left 1
  · (intro w hSw; (try dsimp only at hSw); go_simp; (try with_reducible rfl))
  try simp only [Act.put, List.setIfInBounds_toArray, List.set_cons_zero, List.set_cons_succ]
  refine wpAnyX_take (i := 25) (oi := _) (v := ?_) rfl (by kernel_rfl) (by kernel_rfl) (by kernel_rfl) (by kernel_rfl) (fun _ _ _ h => h) (Or.inl ⟨by rfl, ?_⟩) hS0 ?_
  rotate_left 1
  · (intro w hSw; (try dsimp only at hSw); go_simp; (try with_reducible rfl))
  try simp only [Act.put, List.setIfInBounds_toArray, List.set_cons_zero, List.set_cons_succ]
  refine wpAnyX_take (i := 26) (oi := _) (v := ?_) rfl (by kernel_rfl) (by kernel_rfl) (by kernel_rfl) (by kernel_rfl) (fun _ _ _ h => h) (Or.inl ⟨by rfl, ?_⟩) hS0 ?_
  rotate_left 1
  · (intro w hSw; (try dsimp only at hSw); go_simp; (try with_reducible rfl))
  try simp only [Act.put, List.setIfInBounds_toArray, List.set_cons_zero, List.set_cons_succ]
  refine wpAnyX_take (i := 27) (oi := _) (v := ?_) rfl (by kernel_rfl) (by kernel_rfl) (by kernel_rfl) (by kernel_rfl) (fun _ _ _ h => h) (Or.inl ⟨by rfl, ?_⟩) hS0 ?_
  rotate_left 1
  · (intro w hSw; (try dsimp only at hSw); go_simp; (try with_reducible rfl))
  try simp only [Act.put, List.setIfInBounds_toArray, List.set_cons_zero, List.set_cons_succ]
  refine wpAnyX_one (i := 14) (o := _) rfl (by kernel_rfl) (fun K hK => ?_)
  go_simp
  refine (cmulO (x := x0) (y := x1) (z := z) K0.out K1.out (by exact ef0) (by exact eff 0)).mono ?_
  rintro ee wa ⟨rfl, hba⟩
  have hbb := bad_drew hba
  have hza := bad_size hbb
  have Yf := Bx.bad XF hbb
  have yf0 := Yf.c 0 rfl
  have yff := Yf.f
  have hSa := bad_step (bad_0 (B := W.heap.size) ef0) (by omega) hbb (by omega)
  refine hK.out _ _ (fun _ => ?_) (fun hS1 => ?_)
  · exact ⟨kbad hba (by omega) (hS0.1), kbad hba (by omega) (hS0.2.1), kbad hba (by omega) (hS0.2.2.1), kbad hba (by omega) (hS0.2.2.2.1), kbad hba (by omega) (hS0.2.2.2.2.1), kbad hba (by omega) (hS0.2.2.2.2.2.1), kbad hba (by omega) (hS0.2.2.2.2.2.2.1), kbad hba (by omega) (hS0.2.2.2.2.2.2.2.1), kbad hba (by omega) (hS0.2.2.2.2.2.2.2.2.1), kbad hba (by omega) (hS0.2.2.2.2.2.2.2.2.2.1), kbad hba (by omega) (hS0.2.2.2.2.2.2.2.2.2.2.1), kbad hba (by omega) (hS0.2.2.2.2.2.2.2.2.2.2.2.1), kbad hba (by omega) (hS0.2.2.2.2.2.2.2.2.2.2.2.2.1), kbad hba (by omega) (hS0.2.2.2.2.2.2.2.2.2.2.2.2.2.1), kbad hba (by omega) (hS0.2.2.2.2.2.2.2.2.2.2.2.2.2.2.1), kbad hba (by omega) (hS0.2.2.2.2.2.2.2.2.2.2.2.2.2.2.2.1), kbad hba (by omega) (hS0.2.2.2.2.2.2.2.2.2.2.2.2.2.2.2.2.1), kbad hba (by omega) (hS0.2.2.2.2.2.2.2.2.2.2.2.2.2.2.2.2.2.1), kbad hba (by omega) (hS0.2.2.2.2.2.2.2.2.2.2.2.2.2.2.2.2.2.2.1), kbad hba (by omega) (hS0.2.2.2.2.2.2.2.2.2.2.2.2.2.2.2.2.2.2.2.1), kbad hba (by omega) (hS0.2.2.2.2.2.2.2.2.2.2.2.2.2.2.2.2.2.2.2.2)⟩
  clear hK K
  have hS1 := hS1 (by decide)
  try simp only [Act.put, List.setIfInBounds_toArray, List.set_cons_zero, List.set_cons_succ]
  refine wpAnyX_one (i := 28) (o := _) rfl (by kernel_rfl) (fun K hK => ?_)
  go_simp
  refine (cmulO (x := x2) (y := x3) (z := z || (mulS false x0 x1).2) K2.out K3.out (by exact yf0) (by exact yff 0)).mono ?_
  rintro ee wb ⟨rfl, hbc⟩
  have hzb := bad_size hbc
  have Zf := Bx.bad Yf hbc
  have zf0 := Zf.c 0 rfl
  have zff := Zf.f
  have hSb := bad_step hSa (by omega) hbc (by omega)
  refine hK.out _ _ (fun _ => ?_) (fun hS2 => ?_)
  · exact ⟨kbad hbc (by omega) (hS1.1), kbad hbc (by omega) (hS1.2.1), kbad hbc (by omega) (hS1.2.2.1), kbad hbc (by omega) (hS1.2.2.2.1), kbad hbc (by omega) (hS1.2.2.2.2.1), kbad hbc (by omega) (hS1.2.2.2.2.2.1), kbad hbc (by omega) (hS1.2.2.2.2.2.2.1), kbad hbc (by omega) (hS1.2.2.2.2.2.2.2.1), kbad hbc (by omega) (hS1.2.2.2.2.2.2.2.2.1), kbad hbc (by omega) (hS1.2.2.2.2.2.2.2.2.2.1), kbad hbc (by omega) (hS1.2.2.2.2.2.2.2.2.2.2.1), kbad hbc (by omega) (hS1.2.2.2.2.2.2.2.2.2.2.2.1), kbad hbc (by omega) (hS1.2.2.2.2.2.2.2.2.2.2.2.2.1), kbad hbc (by omega) (hS1.2.2.2.2.2.2.2.2.2.2.2.2.2.1), kbad hbc (by omega) (hS1.2.2.2.2.2.2.2.2.2.2.2.2.2.2.1), kbad hbc (by omega) (hS1.2.2.2.2.2.2.2.2.2.2.2.2.2.2.2.1), kbad hbc (by omega) (hS1.2.2.2.2.2.2.2.2.2.2.2.2.2.2.2.2.1), kbad hbc (by omega) (hS1.2.2.2.2.2.2.2.2.2.2.2.2.2.2.2.2.2.1), kbad hbc (by omega) (hS1.2.2.2.2.2.2.2.2.2.2.2.2.2.2.2.2.2.2.1), kbad hbc (by omega) (hS1.2.2.2.2.2.2.2.2.2.2.2.2.2.2.2.2.2.2.2.1), kbad hbc (by omega) (hS1.2.2.2.2.2.2.2.2.2.2.2.2.2.2.2.2.2.2.2.2)⟩
  clear hK K
  have hS2 := hS2 (by decide)
  try simp only [Act.put, List.setIfInBounds_toArray, List.set_cons_zero, List.set_cons_succ]
  refine wpAnyX_one (i := 29) (o := _) rfl (by kernel_rfl) (fun K hK => ?_)
  go_simp
  refine (l2n5 (x := (mulS false x2 x3).1) (mulS_ok K2.out K3.out) _).mono ?_
  rintro ee wn ⟨rfl, hbn⟩
  have hzn := hbn.size
  have Nf := Zf.mono hbn
  have nf0 := Nf.c 0 rfl
  have nff := Nf.f
  have hSn := chain hSb hbn (by have h9 := hSb.size; rw [World.size_setCell] at h9; exact h9)
  refine hK.out _ _ (fun _ => ?_) (fun hS3 => ?_)
  · exact ⟨kc hbn (hS2.1), kc hbn (hS2.2.1), kc hbn (hS2.2.2.1), kc hbn (hS2.2.2.2.1), kc hbn (hS2.2.2.2.2.1), kc hbn (hS2.2.2.2.2.2.1), kc hbn (hS2.2.2.2.2.2.2.1), kc hbn (hS2.2.2.2.2.2.2.2.1), kc hbn (hS2.2.2.2.2.2.2.2.2.1), kc hbn (hS2.2.2.2.2.2.2.2.2.2.1), kc hbn (hS2.2.2.2.2.2.2.2.2.2.2.1), kc hbn (hS2.2.2.2.2.2.2.2.2.2.2.2.1), kc hbn (hS2.2.2.2.2.2.2.2.2.2.2.2.2.1), kc hbn (hS2.2.2.2.2.2.2.2.2.2.2.2.2.2.1), kc hbn (hS2.2.2.2.2.2.2.2.2.2.2.2.2.2.2.1), kc hbn (hS2.2.2.2.2.2.2.2.2.2.2.2.2.2.2.2.1), kc hbn (hS2.2.2.2.2.2.2.2.2.2.2.2.2.2.2.2.2.1), kc hbn (hS2.2.2.2.2.2.2.2.2.2.2.2.2.2.2.2.2.2.1), kc hbn (hS2.2.2.2.2.2.2.2.2.2.2.2.2.2.2.2.2.2.2.1), kc hbn (hS2.2.2.2.2.2.2.2.2.2.2.2.2.2.2.2.2.2.2.2.1), kc hbn (hS2.2.2.2.2.2.2.2.2.2.2.2.2.2.2.2.2.2.2.2.2)⟩
  clear hK K
  have hS3 := hS3 (by decide)
  try simp only [Act.put, List.setIfInBounds_toArray, List.set_cons_zero, List.set_cons_succ]
  refine wpAnyX_one (i := 30) (o := _) rfl (by kernel_rfl) (fun K hK => ?_)
  go_simp
  refine (caddO (x := (mulS false x0 x1).1) (y := neg5 (mulS false x2 x3).1) (z := z || (mulS false x0 x1).2 || (mulS false x2 x3).2) (mulS_ok K0.out K1.out) (neg5_ok (mulS_ok K2.out K3.out)) (by exact nf0) (by exact nff 0)).mono ?_
  rintro ee wd ⟨rfl, hbd⟩
  have hzd := bad_size hbd
  have hSd := bad_step hSn (by omega) hbd (by omega)
  refine hK.out _ _ (fun _ => ?_) (fun hS4 => ?_)
  · exact ⟨kbad hbd (by omega) (hS3.1), kbad hbd (by omega) (hS3.2.1), kbad hbd (by omega) (hS3.2.2.1), kbad hbd (by omega) (hS3.2.2.2.1), kbad hbd (by omega) (hS3.2.2.2.2.1), kbad hbd (by omega) (hS3.2.2.2.2.2.1), kbad hbd (by omega) (hS3.2.2.2.2.2.2.1), kbad hbd (by omega) (hS3.2.2.2.2.2.2.2.1), kbad hbd (by omega) (hS3.2.2.2.2.2.2.2.2.1), kbad hbd (by omega) (hS3.2.2.2.2.2.2.2.2.2.1), kbad hbd (by omega) (hS3.2.2.2.2.2.2.2.2.2.2.1), kbad hbd (by omega) (hS3.2.2.2.2.2.2.2.2.2.2.2.1), kbad hbd (by omega) (hS3.2.2.2.2.2.2.2.2.2.2.2.2.1), kbad hbd (by omega) (hS3.2.2.2.2.2.2.2.2.2.2.2.2.2.1), kbad hbd (by omega) (hS3.2.2.2.2.2.2.2.2.2.2.2.2.2.2.1), kbad hbd (by omega) (hS3.2.2.2.2.2.2.2.2.2.2.2.2.2.2.2.1), kbad hbd (by omega) (hS3.2.2.2.2.2.2.2.2.2.2.2.2.2.2.2.2.1), kbad hbd (by omega) (hS3.2.2.2.2.2.2.2.2.2.2.2.2.2.2.2.2.2.1), kbad hbd (by omega) (hS3.2.2.2.2.2.2.2.2.2.2.2.2.2.2.2.2.2.2.1), kbad hbd (by omega) (hS3.2.2.2.2.2.2.2.2.2.2.2.2.2.2.2.2.2.2.2.1), kbad hbd (by omega) (hS3.2.2.2.2.2.2.2.2.2.2.2.2.2.2.2.2.2.2.2.2)⟩
  clear hK K
  have hS4 := hS4 (by decide)
  try simp only [Act.put, List.setIfInBounds_toArray, List.set_cons_zero, List.set_cons_succ]
  refine wpAnyX_one (i := 31) (o := _) rfl (by kernel_rfl) (fun K hK => ?_)
  have XR2 := (((XR.badly hbb (by omega)).badly hbc (by omega)).mono hbn).badly hbd (by omega)
  have r0 := XR2.c 0 rfl
  have r1 := XR2.c 1 rfl
  have r2 := XR2.c 2 rfl
  have r3 := XR2.c 3 rfl
  have r4 := XR2.c 4 rfl
  have rf := XR2.f
  go_simp
  refine hK.out _ _ (fun h => absurd rfl h) (fun _ => ?_)
  clear hK K
  try simp only [Act.put, List.setIfInBounds_toArray, List.set_cons_zero, List.set_cons_succ]
  refine wpAnyX_done (by kernel_rfl) ?_ _
  clear hS0 hS1 hS2 hS3 hS4
  (repeat (first | go_values | go_skip | go_guarded | go_step | go_upon))
  refine bodyPost_ret (v := (addS false (mulS false x0 x1).1 (neg5 (mulS false x2 x3).1)).1.v) (by first | (simp [results, Try.results124, go_sem, *]; done) | (simp (disch := (first | omega | (simp; done) | (simp; omega))) [results, Try.results124, go_sem, *]; done) | (simp only [results, Try.results124]; go_simp; done)) rfl ⟨rfl, ?_⟩
  rw [show (z || ((mulS false x0 x1).2 || (mulS false x2 x3).2 || (addS false (mulS false x0 x1).1 (neg5 (mulS false x2 x3).1)).2)) = (z || (mulS false x0 x1).2 || (mulS false x2 x3).2 || (addS false (mulS false x0 x1).1 (neg5 (mulS false x2 x3).1)).2) by simp [Bool.or_assoc]]
  refine set5_below (g := w.heap.size + 1) (o := 0) (x := (addS false (mulS false x0 x1).1 (neg5 (mulS false x2 x3).1)).1) ?_ (by omega)
  exact stp_below hBW hSd hcl


end Go.Proofs.Ytofclfgaekjonaa
