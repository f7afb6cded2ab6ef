/- Kt, Kt2, Kt3 -/
import Derived.Test.YtncgccpkbneagaaGmA
import Derived.Test.YtncgccpkbneagaaZbx
import Derived.Test.YtncgccpkbneagaaZhld
import Derived.Test.YtncgccpkbneagaaRgx
import Derived.Test.YtncgccpkbneagaaValid
namespace Go.Proofs.Ytncgccpkbneagaa
open Go.RowKit RM
set_option linter.unusedVariables false
set_option linter.unusedSimpArgs false
attribute [local irreducible] World.setCell

open GM
set_option maxRecDepth 1000000 in
theorem band32 : (allN 32 fun a => allN 32 fun b => decide (bits .and .i64 (a : Int) (b : Int) = ((a &&& b : Nat) : Int))) = true := by decide +kernel
set_option maxRecDepth 1000000 in
theorem bxor32 : (allN 32 fun a => allN 32 fun b => decide (bits .xor .i64 (a : Int) (b : Int) = ((a ^^^ b : Nat) : Int))) = true := by decide +kernel
set_option maxRecDepth 1000000 in
theorem bnot32 : (allN 32 fun a => allN 32 fun b => decide (bits .andNot .i64 (a : Int) (b : Int) = ((a - (a &&& b) : Nat) : Int))) = true := by decide +kernel
theorem band {a b : Nat} (ha : a < 32) (hb : b < 32) : bits .and .i64 (a : Int) (b : Int) = ((a &&& b : Nat) : Int) := of_decide_eq_true (allN_get (allN_get band32 ha) hb)
theorem bxor {a b : Nat} (ha : a < 32) (hb : b < 32) : bits .xor .i64 (a : Int) (b : Int) = ((a ^^^ b : Nat) : Int) := of_decide_eq_true (allN_get (allN_get bxor32 ha) hb)
theorem bnot {a b : Nat} (ha : a < 32) (hb : b < 32) : bits .andNot .i64 (a : Int) (b : Int) = ((a - (a &&& b) : Nat) : Int) := of_decide_eq_true (allN_get (allN_get bnot32 ha) hb)
theorem msk32 {n q : Nat} (h5 : n ≤ 5) (hq : q < n) : msk n q < 32 := Nat.lt_of_lt_of_le (msk_lt hq) (pow_le h5)
set_option maxRecDepth 1000000 in
theorem shl_all : (allN 6 fun n => allN n fun q => decide (wrap64 ((2 : Int) ^ (n - 1 - q)) = ((msk n q : Nat) : Int))) = true := by decide +kernel
theorem shl_w {n q : Nat} (h5 : n ≤ 5) (hq : q < n) : wrap64 ((2 : Int) ^ (n - 1 - q)) = ((msk n q : Nat) : Int) := of_decide_eq_true (allN_get (allN_get shl_all (show n < 6 by omega)) hq)
theorem ret_i {k : IntKind} {a b : Int} (h : a = b) : Ending.returned (.int k a) = .returned (.int k b) := by rw [h]
theorem undrewK {W W' : World} (h : Below W.drew.heap.size W.drew W') : Below W.heap.size W W' := ⟨h.os, h.tape, h.output, h.size, h.block⟩

set_option maxRecDepth 100000 in
set_option maxHeartbeats 2000000 in
theorem kmask {n q c : Nat} {p : Int} {w : World} (h5 : n ≤ 5) (hq : q < n) :
    Calls Try.prog 158 #[.agg #[.int .i64 n, .int .i64 c, .int .i64 p], .int .i64 (q : Int)] w fun ee w' => ee = .returned (.int .i64 ((msk n q : Nat) : Int)) ∧ Below w.heap.size w w' := by
  have h1 : (n : Int) ≤ 5 := by omega
  have h2 : (q : Int) + 1 ≤ n := by omega
  have h3 : 0 ≤ (n : Int) - 1 - (q : Int) := by omega
  have HS := hid (shl_w h5 hq)
  go_enter Try.func158, Try.ntmps158
  go_wp2_with (fail)
  go_ret
  refine ⟨ret_i ?_, ?_⟩
  · exact HS.out
  · (repeat' (first | (with_reducible exact Below.refl _ _) | (with_reducible assumption) | (with_reducible refine Below.alloc ?_ ?_ _) | (with_reducible refine Below.drew ?_) | (with_reducible refine below_drewN ?_ _) | (with_reducible refine Below.setCell ?_ ?_ _) | (with_reducible refine chain ?_ (by assumption) ?_) | omega | (simp; done) | (simp; omega)))

set_option maxRecDepth 100000 in
set_option maxHeartbeats 2000000 in
theorem kbit_0 {n q c : Nat} {p : Int} {w : World} (h5 : n ≤ 5) (hq : q < n) (hc : c < 32) (h : c &&& msk n q = 0) :
    Calls Try.prog 118 #[.agg #[.int .i64 n, .int .i64 c, .int .i64 p], .int .i64 (q : Int)] w fun ee w' => ee = .returned (.int .i64 0) ∧ Below w.heap.size w w' := by
  have hz : bits .and .i64 (c : Int) ((msk n q : Nat) : Int) = 0 := by rw [band hc (msk32 h5 hq), h]; rfl
  clear h
  go_enter Try.func118, Try.ntmps118
  go_upto_region 1 with (fail)
  obtain ⟨W, hW⟩ : ∃ W : World, W = w.alloc (.cells #[.int .i64 (n : Int), .int .i64 (c : Int), .int .i64 p] 119) := ⟨_, rfl⟩
  have hbW : Below w.heap.size w W := by rw [hW]; exact (Below.refl _ _).alloc (Nat.le_refl _) _
  have XW : Bx W w.heap.size 119 #[.int .i64 (n : Int), .int .i64 (c : Int), .int .i64 p] := by rw [hW]; exact Bx.new rfl
  have hzW : w.heap.size < W.heap.size := by rw [hW]; simp
  rw [← hW]
  clear hW
  have c0 := XW.c 0 rfl
  have c1 := XW.c 1 rfl
  have c2 := XW.c 2 rfl
  have yc0 : W.drew.cell? ⟨w.heap.size, 0, none⟩ = some (.int .i64 (n : Int)) := c0
  have yc1 : W.drew.cell? ⟨w.heap.size, 1, none⟩ = some (.int .i64 (c : Int)) := c1
  have yc2 : W.drew.cell? ⟨w.heap.size, 2, none⟩ = some (.int .i64 p) := c2
  refine wp_region_x (fun w' => w'.cell? ⟨w.heap.size, 0, none⟩ = some (.int .i64 (n : Int)) ∧ w'.cell? ⟨w.heap.size, 1, none⟩ = some (.int .i64 (c : Int)) ∧ w'.cell? ⟨w.heap.size, 2, none⟩ = some (.int .i64 p)) 1000 (by kernel_rfl) ⟨yc0, yc1, yc2⟩ (fun hS0 => ?_)
  refine wpAnyX_take (i := 0) (oi := _) (v := ?_) rfl (by kernel_rfl) (by kernel_rfl) (by kernel_rfl) (by kernel_rfl) (fun _ _ _ h => h) (Or.inl ⟨by rfl, ?_⟩) hS0 ?_
  rotate_left 1
  · (intro w hSw; (try dsimp only at hSw); go_simp; (try with_reducible rfl))
  try simp only [Act.put, List.setIfInBounds_toArray, List.set_cons_zero, List.set_cons_succ]
  refine wpAnyX_take (i := 1) (oi := _) (v := ?_) rfl (by kernel_rfl) (by kernel_rfl) (by kernel_rfl) (by kernel_rfl) (fun _ _ _ h => h) (Or.inl ⟨by rfl, ?_⟩) hS0 ?_
  rotate_left 1
  · (intro w hSw; (try dsimp only at hSw); go_simp; (try with_reducible rfl))
  try simp only [Act.put, List.setIfInBounds_toArray, List.set_cons_zero, List.set_cons_succ]
  refine wpAnyX_take (i := 2) (oi := _) (v := ?_) rfl (by kernel_rfl) (by kernel_rfl) (by kernel_rfl) (by kernel_rfl) (fun _ _ _ h => h) (Or.inl ⟨by rfl, ?_⟩) hS0 ?_
  rotate_left 1
  · (intro w hSw; (try dsimp only at hSw); go_simp; (try with_reducible rfl))
  try simp only [Act.put, List.setIfInBounds_toArray, List.set_cons_zero, List.set_cons_succ]
  refine wpAnyX_take (i := 3) (oi := _) (v := ?_) rfl (by kernel_rfl) (by kernel_rfl) (by kernel_rfl) (by kernel_rfl) (fun _ _ _ h => h) (Or.inl ⟨by rfl, ?_⟩) hS0 ?_
  rotate_left 1
  · (intro w hSw; (try dsimp only at hSw); go_simp; (try with_reducible rfl))
  try simp only [Act.put, List.setIfInBounds_toArray, List.set_cons_zero, List.set_cons_succ]
  refine wpAnyX_one (i := 4) (o := _) rfl (by kernel_rfl) (fun K hK => ?_)
  go_simp
  refine (kmask h5 hq).mono ?_
  rintro ee w8 ⟨rfl, hb8⟩
  have hz8 := hb8.size
  refine hK.out _ _ (fun _ => ?_) (fun hS1 => ?_)
  · exact ⟨kc hb8 (hS0.1), kc hb8 (hS0.2.1), kc hb8 (hS0.2.2)⟩
  clear hK K
  have hS1 := hS1 (by decide)
  try simp only [Act.put, List.setIfInBounds_toArray, List.set_cons_zero, List.set_cons_succ]
  refine wpAnyX_take (i := 5) (oi := _) (v := ?_) rfl (by kernel_rfl) (by kernel_rfl) (by kernel_rfl) (by kernel_rfl) (fun _ _ _ h => h) (Or.inl ⟨by rfl, ?_⟩) hS1 ?_
  rotate_left 1
  · (intro w hSw; (try dsimp only at hSw); go_simp; (try with_reducible rfl))
  try simp only [Act.put, List.setIfInBounds_toArray, List.set_cons_zero, List.set_cons_succ]
  refine wpAnyX_take (i := 6) (oi := _) (v := ?_) rfl (by kernel_rfl) (by kernel_rfl) (by kernel_rfl) (by kernel_rfl) (fun _ _ _ h => h) (Or.inl ⟨by rfl, ?_⟩) hS1 ?_
  rotate_left 1
  · (intro w hSw; (try dsimp only at hSw); go_simp; (try with_reducible rfl))
  change wpAnyX _ _ _ _ _ _ _ _ (Act.put _ (some 11) _) _
  try simp only [Act.put, List.setIfInBounds_toArray, List.set_cons_zero, List.set_cons_succ]
  refine wpAnyX_done (by kernel_rfl) ?_ _
  go_wp2_with fail
  go_ret
  refine ⟨rfl, ?_⟩
  have hb9 := undrewK hb8
  (repeat' (first | (with_reducible exact Below.refl _ _) | (with_reducible assumption) | (with_reducible refine Below.alloc ?_ ?_ _) | (with_reducible refine Below.drew ?_) | (with_reducible refine below_drewN ?_ _) | (with_reducible refine Below.setCell ?_ ?_ _) | (with_reducible refine chain ?_ (by assumption) ?_) | omega | (simp; done) | (simp; omega)))

set_option maxRecDepth 100000 in
set_option maxHeartbeats 2000000 in
theorem kbit_1 {n q c : Nat} {p : Int} {w : World} (h5 : n ≤ 5) (hq : q < n) (hc : c < 32) (h : ¬ (c &&& msk n q = 0)) :
    Calls Try.prog 118 #[.agg #[.int .i64 n, .int .i64 c, .int .i64 p], .int .i64 (q : Int)] w fun ee w' => ee = .returned (.int .i64 1) ∧ Below w.heap.size w w' := by
  obtain ⟨z, hz9⟩ : ∃ z : Nat, z = c &&& msk n q := ⟨_, rfl⟩
  have hz : bits .and .i64 (c : Int) ((msk n q : Nat) : Int) = (z : Int) := by rw [band hc (msk32 h5 hq), ← hz9]
  have hz1 : 1 ≤ z := by omega
  have hz2 : ((z : Int) == 0) = false := by simp; omega
  clear hz9
  clear h
  go_enter Try.func118, Try.ntmps118
  go_upto_region 1 with (fail)
  obtain ⟨W, hW⟩ : ∃ W : World, W = w.alloc (.cells #[.int .i64 (n : Int), .int .i64 (c : Int), .int .i64 p] 119) := ⟨_, rfl⟩
  have hbW : Below w.heap.size w W := by rw [hW]; exact (Below.refl _ _).alloc (Nat.le_refl _) _
  have XW : Bx W w.heap.size 119 #[.int .i64 (n : Int), .int .i64 (c : Int), .int .i64 p] := by rw [hW]; exact Bx.new rfl
  have hzW : w.heap.size < W.heap.size := by rw [hW]; simp
  rw [← hW]
  clear hW
  have c0 := XW.c 0 rfl
  have c1 := XW.c 1 rfl
  have c2 := XW.c 2 rfl
  have yc0 : W.drew.cell? ⟨w.heap.size, 0, none⟩ = some (.int .i64 (n : Int)) := c0
  have yc1 : W.drew.cell? ⟨w.heap.size, 1, none⟩ = some (.int .i64 (c : Int)) := c1
  have yc2 : W.drew.cell? ⟨w.heap.size, 2, none⟩ = some (.int .i64 p) := c2
  refine wp_region_x (fun w' => w'.cell? ⟨w.heap.size, 0, none⟩ = some (.int .i64 (n : Int)) ∧ w'.cell? ⟨w.heap.size, 1, none⟩ = some (.int .i64 (c : Int)) ∧ w'.cell? ⟨w.heap.size, 2, none⟩ = some (.int .i64 p)) 1000 (by kernel_rfl) ⟨yc0, yc1, yc2⟩ (fun hS0 => ?_)
  refine wpAnyX_take (i := 0) (oi := _) (v := ?_) rfl (by kernel_rfl) (by kernel_rfl) (by kernel_rfl) (by kernel_rfl) (fun _ _ _ h => h) (Or.inl ⟨by rfl, ?_⟩) hS0 ?_
  rotate_left 1
  · (intro w hSw; (try dsimp only at hSw); go_simp; (try with_reducible rfl))
  try simp only [Act.put, List.setIfInBounds_toArray, List.set_cons_zero, List.set_cons_succ]
  refine wpAnyX_take (i := 1) (oi := _) (v := ?_) rfl (by kernel_rfl) (by kernel_rfl) (by kernel_rfl) (by kernel_rfl) (fun _ _ _ h => h) (Or.inl ⟨by rfl, ?_⟩) hS0 ?_
  rotate_left 1
  · (intro w hSw; (try dsimp only at hSw); go_simp; (try with_reducible rfl))
  try simp only [Act.put, List.setIfInBounds_toArray, List.set_cons_zero, List.set_cons_succ]
  refine wpAnyX_take (i := 2) (oi := _) (v := ?_) rfl (by kernel_rfl) (by kernel_rfl) (by kernel_rfl) (by kernel_rfl) (fun _ _ _ h => h) (Or.inl ⟨by rfl, ?_⟩) hS0 ?_
  rotate_left 1
  · (intro w hSw; (try dsimp only at hSw); go_simp; (try with_reducible rfl))
  try simp only [Act.put, List.setIfInBounds_toArray, List.set_cons_zero, List.set_cons_succ]
  refine wpAnyX_take (i := 3) (oi := _) (v := ?_) rfl (by kernel_rfl) (by kernel_rfl) (by kernel_rfl) (by kernel_rfl) (fun _ _ _ h => h) (Or.inl ⟨by rfl, ?_⟩) hS0 ?_
  rotate_left 1
  · (intro w hSw; (try dsimp only at hSw); go_simp; (try with_reducible rfl))
  try simp only [Act.put, List.setIfInBounds_toArray, List.set_cons_zero, List.set_cons_succ]
  refine wpAnyX_one (i := 4) (o := _) rfl (by kernel_rfl) (fun K hK => ?_)
  go_simp
  refine (kmask h5 hq).mono ?_
  rintro ee w8 ⟨rfl, hb8⟩
  have hz8 := hb8.size
  refine hK.out _ _ (fun _ => ?_) (fun hS1 => ?_)
  · exact ⟨kc hb8 (hS0.1), kc hb8 (hS0.2.1), kc hb8 (hS0.2.2)⟩
  clear hK K
  have hS1 := hS1 (by decide)
  try simp only [Act.put, List.setIfInBounds_toArray, List.set_cons_zero, List.set_cons_succ]
  refine wpAnyX_take (i := 5) (oi := _) (v := ?_) rfl (by kernel_rfl) (by kernel_rfl) (by kernel_rfl) (by kernel_rfl) (fun _ _ _ h => h) (Or.inl ⟨by rfl, ?_⟩) hS1 ?_
  rotate_left 1
  · (intro w hSw; (try dsimp only at hSw); go_simp; (try with_reducible rfl))
  try simp only [Act.put, List.setIfInBounds_toArray, List.set_cons_zero, List.set_cons_succ]
  refine wpAnyX_take (i := 6) (oi := _) (v := ?_) rfl (by kernel_rfl) (by kernel_rfl) (by kernel_rfl) (by kernel_rfl) (fun _ _ _ h => h) (Or.inl ⟨by rfl, ?_⟩) hS1 ?_
  rotate_left 1
  · (intro w hSw; (try dsimp only at hSw); go_simp; (try with_reducible rfl))
  change wpAnyX _ _ _ _ _ _ _ _ (Act.put _ (some 11) _) _
  try simp only [Act.put, List.setIfInBounds_toArray, List.set_cons_zero, List.set_cons_succ]
  refine wpAnyX_done (by kernel_rfl) ?_ _
  go_wp2_with fail
  go_ret
  refine ⟨rfl, ?_⟩
  have hb9 := undrewK hb8
  (repeat' (first | (with_reducible exact Below.refl _ _) | (with_reducible assumption) | (with_reducible refine Below.alloc ?_ ?_ _) | (with_reducible refine Below.drew ?_) | (with_reducible refine below_drewN ?_ _) | (with_reducible refine Below.setCell ?_ ?_ _) | (with_reducible refine chain ?_ (by assumption) ?_) | omega | (simp; done) | (simp; omega)))

theorem kbit {n q c : Nat} {p : Int} {w : World} (h5 : n ≤ 5) (hq : q < n) (hc : c < 32) :
    Calls Try.prog 118 #[.agg #[.int .i64 n, .int .i64 c, .int .i64 p], .int .i64 (q : Int)] w fun ee w' => ee = .returned (.int .i64 ((bitI n c q : Nat) : Int)) ∧ Below w.heap.size w w' := by
  rcases bitI_01 (n := n) (c := c) (q := q) with h | h
  · rw [h]; exact kbit_0 h5 hq hc (bitI_iff.1 h)
  · rw [h]; exact kbit_1 h5 hq hc (fun h2 => by rw [bitI_iff.2 h2] at h; cases h)

end Go.Proofs.Ytncgccpkbneagaa
namespace Go.Proofs.Ytncgccpkbneagaa
open Go.RowKit RM
set_option linter.unusedVariables false
set_option linter.unusedSimpArgs false
attribute [local irreducible] World.setCell

open GM
set_option maxRecDepth 100000 in
set_option maxHeartbeats 2000000 in
theorem kflip {n q c : Nat} {p : Int} {w : World} (h5 : n ≤ 5) (hq : q < n) (hc : c < 32) :
    Calls Try.prog 172 #[.agg #[.int .i64 (n : Int), .int .i64 (c : Int), .int .i64 p], .int .i64 (q : Int)] w fun ee w' => ee = .returned (.agg #[.int .i64 (n : Int), .int .i64 ((c ^^^ msk n q : Nat) : Int), .int .i64 p]) ∧ Below w.heap.size w w' := by
  have hz := bxor hc (msk32 h5 hq)
  go_enter Try.func172, Try.ntmps172
  go_upto_region 1 with (fail)
  obtain ⟨W, hW⟩ : ∃ W : World, W = (w.alloc (.cells #[.int .i64 (n : Int), .int .i64 (c : Int), .int .i64 p] 119)).alloc (.cells #[.int .i64 0, .int .i64 0, .int .i64 0] 119) := ⟨_, rfl⟩
  have hbW : Below w.heap.size w W := by rw [hW]; exact ((Below.refl _ _).alloc (Nat.le_refl _) _).alloc (by simp) _
  have cX : Bx W w.heap.size 119 #[.int .i64 (n : Int), .int .i64 (c : Int), .int .i64 p] := by rw [hW]; exact (Bx.new rfl).alloc _
  have zX : Bx W (w.heap.size + 1) 119 #[.int .i64 0, .int .i64 0, .int .i64 0] := by rw [hW]; exact Bx.new (by simp)
  have hzW : w.heap.size + 1 < W.heap.size := by rw [hW]; simp
  rw [← hW]
  clear hW
  have c0 := cX.c 0 rfl
  have c1 := cX.c 1 rfl
  have c2 := cX.c 2 rfl
  have cl := cX.lt
  have yc0 : W.drew.cell? ⟨w.heap.size, 0, none⟩ = some (.int .i64 (n : Int)) := c0
  have yc1 : W.drew.cell? ⟨w.heap.size, 1, none⟩ = some (.int .i64 (c : Int)) := c1
  have yc2 : W.drew.cell? ⟨w.heap.size, 2, none⟩ = some (.int .i64 p) := c2
  refine wp_region_x (fun w' => w'.cell? ⟨w.heap.size, 0, none⟩ = some (.int .i64 (n : Int)) ∧ w'.cell? ⟨w.heap.size, 1, none⟩ = some (.int .i64 (c : Int)) ∧ w'.cell? ⟨w.heap.size, 2, none⟩ = some (.int .i64 p)) 7 (by kernel_rfl) ⟨yc0, yc1, yc2⟩ (fun hS0 => ?_)
  refine wpAnyX_take (i := 0) (oi := _) (v := ?_) rfl (by kernel_rfl) (by kernel_rfl) (by kernel_rfl) (by kernel_rfl) (fun _ _ _ h => h) (Or.inl ⟨by rfl, ?_⟩) hS0 ?_
  rotate_left 1
  · (intro w hSw; (try dsimp only at hSw); go_simp; (try with_reducible rfl))
  try simp only [Act.put, List.setIfInBounds_toArray, List.set_cons_zero, List.set_cons_succ]
  refine wpAnyX_take (i := 1) (oi := _) (v := ?_) rfl (by kernel_rfl) (by kernel_rfl) (by kernel_rfl) (by kernel_rfl) (fun _ _ _ h => h) (Or.inl ⟨by rfl, ?_⟩) hS0 ?_
  rotate_left 1
  · (intro w hSw; (try dsimp only at hSw); go_simp; (try with_reducible rfl))
  try simp only [Act.put, List.setIfInBounds_toArray, List.set_cons_zero, List.set_cons_succ]
  refine wpAnyX_take (i := 2) (oi := _) (v := ?_) rfl (by kernel_rfl) (by kernel_rfl) (by kernel_rfl) (by kernel_rfl) (fun _ _ _ h => h) (Or.inl ⟨by rfl, ?_⟩) hS0 ?_
  rotate_left 1
  · (intro w hSw; (try dsimp only at hSw); go_simp; (try with_reducible rfl))
  try simp only [Act.put, List.setIfInBounds_toArray, List.set_cons_zero, List.set_cons_succ]
  refine wpAnyX_take (i := 3) (oi := _) (v := ?_) rfl (by kernel_rfl) (by kernel_rfl) (by kernel_rfl) (by kernel_rfl) (fun _ _ _ h => h) (Or.inl ⟨by rfl, ?_⟩) hS0 ?_
  rotate_left 1
  · (intro w hSw; (try dsimp only at hSw); go_simp; (try with_reducible rfl))
  try simp only [Act.put, List.setIfInBounds_toArray, List.set_cons_zero, List.set_cons_succ]
  refine wpAnyX_one (i := 4) (o := _) rfl (by kernel_rfl) (fun K hK => ?_)
  go_simp
  refine (kmask h5 hq).mono ?_
  rintro ee w8 ⟨rfl, hb80⟩
  have hb8 := undrewK hb80
  have hz8 := hb8.size
  refine hK.out _ _ (fun _ => ?_) (fun hS1 => ?_)
  · exact ⟨kc hb80 (hS0.1), kc hb80 (hS0.2.1), kc hb80 (hS0.2.2)⟩
  clear hK K
  have hS1 := hS1 (by decide)
  try simp only [Act.put, List.setIfInBounds_toArray, List.set_cons_zero, List.set_cons_succ]
  refine wpAnyX_take (i := 5) (oi := _) (v := ?_) rfl (by kernel_rfl) (by kernel_rfl) (by kernel_rfl) (by kernel_rfl) (fun _ _ _ h => h) (Or.inl ⟨by rfl, ?_⟩) hS1 ?_
  rotate_left 1
  · (intro w hSw; (try dsimp only at hSw); go_simp; (try with_reducible rfl))
  try simp only [Act.put, List.setIfInBounds_toArray, List.set_cons_zero, List.set_cons_succ]
  refine wpAnyX_take (i := 6) (oi := _) (v := ?_) rfl (by kernel_rfl) (by kernel_rfl) (by kernel_rfl) (by kernel_rfl) (fun _ _ _ h => h) (Or.inl ⟨by rfl, ?_⟩) hS1 ?_
  rotate_left 1
  · (intro w hSw; (try dsimp only at hSw); go_simp; (try with_reducible rfl))
  try simp only [Act.put, List.setIfInBounds_toArray, List.set_cons_zero, List.set_cons_succ]
  refine wpAnyX_one (i := 7) (o := _) rfl (by kernel_rfl) (fun K hK => ?_)
  have cX8 := cX.mono hb8
  have zX8 := zX.mono hb8
  have d0 := cX8.c 0 rfl
  have d1 := cX8.c 1 rfl
  have d2 := cX8.c 2 rfl
  have df := cX8.f
  have dl := cX8.lt
  have e0 := zX8.c 0 rfl
  have e1 := zX8.c 1 rfl
  have e2 := zX8.c 2 rfl
  have ef := zX8.f
  have el := zX8.lt
  have ne1 : w.heap.size ≠ w.heap.size + 1 := by omega
  have ne2 : w.heap.size + 1 ≠ w.heap.size := by omega
  go_simp
  refine hK.out _ _ (fun h => absurd rfl h) (fun _ => ?_)
  clear hK K
  try simp only [Act.put, List.setIfInBounds_toArray, List.set_cons_zero, List.set_cons_succ]
  refine wpAnyX_done (by kernel_rfl) ?_ _
  go_wp2_with (fail)
  refine bodyPost_ret (v := .agg #[.int .i64 (n : Int), .int .i64 ((c ^^^ msk n q : Nat) : Int), .int .i64 p]) (by first | (simp [results, Try.results172, go_sem, *]; done) | (simp (disch := (first | omega | (simp; done) | (simp; omega))) [results, Try.results172, go_sem, *]; done) | (simp only [results, Try.results172]; go_simp; done)) rfl ⟨rfl, ?_⟩
  have hb9 := chain hbW hb8 hbW.size
  (repeat' (first | (with_reducible exact Below.refl _ _) | (with_reducible assumption) | (with_reducible refine Below.alloc ?_ ?_ _) | (with_reducible refine Below.drew ?_) | (with_reducible refine below_drewN ?_ _) | (with_reducible refine Below.setCell ?_ ?_ _) | (with_reducible refine chain ?_ (by assumption) ?_) | omega | (simp; done) | (simp; omega)))

set_option maxRecDepth 100000 in
set_option maxHeartbeats 2000000 in
theorem kturn {n c : Nat} {p s : Int} {w : World} (p1 : -1000 ≤ p) (p2 : p ≤ 1000) (s1 : -1000 ≤ s) (s2 : s ≤ 1000) :
    Calls Try.prog 173 #[.agg #[.int .i64 (n : Int), .int .i64 (c : Int), .int .i64 p], .int .i64 s] w fun ee w' => ee = .returned (.agg #[.int .i64 (n : Int), .int .i64 (c : Int), .int .i64 (p + s)]) ∧ Below w.heap.size w w' := by
  go_enter Try.func173, Try.ntmps173
  go_wp2_with (fail)
  refine bodyPost_ret (v := .agg #[.int .i64 (n : Int), .int .i64 (c : Int), .int .i64 (p + s)]) (by first | (simp [results, Try.results173, go_sem, *]; done) | (simp (disch := (first | omega | (simp; done) | (simp; omega))) [results, Try.results173, go_sem, *]; done) | (simp only [results, Try.results173]; go_simp; done)) rfl ⟨rfl, ?_⟩
  (repeat' (first | (with_reducible exact Below.refl _ _) | (with_reducible assumption) | (with_reducible refine Below.alloc ?_ ?_ _) | (with_reducible refine Below.drew ?_) | (with_reducible refine below_drewN ?_ _) | (with_reducible refine Below.setCell ?_ ?_ _) | (with_reducible refine chain ?_ (by assumption) ?_) | omega | (simp; done) | (simp; omega)))

set_option maxRecDepth 100000 in
set_option maxHeartbeats 2000000 in
theorem kapplyX {n c A B : Nat} {p kd : Int} {w : World} (h5 : n ≤ 5) (hA : A < n) (hc : c < 2 ^ n) (p1 : -100 ≤ p) (p2 : p ≤ 100) :
    Calls Try.prog 141 #[.agg #[.int .i64 (n : Int), .int .i64 (c : Int), .int .i64 p], .agg #[.int .i64 kd, .int .i64 (A : Int), .int .i64 (B : Int)]] w fun ee w' => ee = .returned (.agg #[.int .i64 (n : Int), .int .i64 ((c ^^^ msk n A : Nat) : Int), .int .i64 p]) ∧ Below w.heap.size w w' := by
  have hc9 : c < 32 := Nat.lt_of_lt_of_le hc (pow_le h5)
  go_enter Try.func141, Try.ntmps141
  go_wp2_with (fail)
  refine (kflip h5 hA hc9).mono ?_
  rintro ee w1 ⟨rfl, hb1⟩
  obtain ⟨hc1, hf1, _⟩ := bcell hb1; have hz1 := hb1.size; (try simp at hz1); (try have hx10 : w.heap.size < w1.heap.size := (by omega)); (try have hx11 : w.heap.size + 1 < w1.heap.size := (by omega)); (try have hx12 : w.heap.size + 1 + 1 < w1.heap.size := (by omega)); (try have hx13 : w.heap.size + 1 + 1 + 1 < w1.heap.size := (by omega)); (try have hx14 : w.heap.size + 1 + 1 + 1 + 1 < w1.heap.size := (by omega))
  go_wp2_with (fail)
  refine bodyPost_ret (v := .agg #[.int .i64 (n : Int), .int .i64 ((c ^^^ msk n A : Nat) : Int), .int .i64 p]) (by first | (simp [results, Try.results141, go_sem, *]; done) | (simp (disch := (first | omega | (simp; done) | (simp; omega))) [results, Try.results141, go_sem, *]; done) | (simp only [results, Try.results141]; go_simp; done)) rfl ⟨rfl, ?_⟩
  (repeat' (first | (with_reducible exact Below.refl _ _) | (with_reducible assumption) | (with_reducible refine Below.alloc ?_ ?_ _) | (with_reducible refine Below.drew ?_) | (with_reducible refine below_drewN ?_ _) | (with_reducible refine Below.setCell ?_ ?_ _) | (with_reducible refine chain ?_ (by assumption) ?_) | omega | (simp; done) | (simp; omega)))

set_option maxRecDepth 100000 in
set_option maxHeartbeats 2000000 in
theorem kapplyX2 {n c A B : Nat} {p kd : Int} {w : World} (h5 : n ≤ 5) (hA : A < n) (hc : c < 2 ^ n) (p1 : -1000 ≤ p) (p2 : p ≤ 1000) :
    Calls Try.prog 141 #[.agg #[.int .i64 (n : Int), .int .i64 (c : Int), .int .i64 p], .agg #[.int .i64 kd, .int .i64 (A : Int), .int .i64 (B : Int)]] w fun ee w' => ee = .returned (.agg #[.int .i64 (n : Int), .int .i64 ((c ^^^ msk n A : Nat) : Int), .int .i64 p]) ∧ Below w.heap.size w w' := by
  have hc9 : c < 32 := Nat.lt_of_lt_of_le hc (pow_le h5)
  go_enter Try.func141, Try.ntmps141
  go_wp2_with (fail)
  refine (kflip h5 hA hc9).mono ?_
  rintro ee w1 ⟨rfl, hb1⟩
  obtain ⟨hc1, hf1, _⟩ := bcell hb1; have hz1 := hb1.size; (try simp at hz1); (try have hx10 : w.heap.size < w1.heap.size := (by omega)); (try have hx11 : w.heap.size + 1 < w1.heap.size := (by omega)); (try have hx12 : w.heap.size + 1 + 1 < w1.heap.size := (by omega)); (try have hx13 : w.heap.size + 1 + 1 + 1 < w1.heap.size := (by omega)); (try have hx14 : w.heap.size + 1 + 1 + 1 + 1 < w1.heap.size := (by omega))
  go_wp2_with (fail)
  refine bodyPost_ret (v := .agg #[.int .i64 (n : Int), .int .i64 ((c ^^^ msk n A : Nat) : Int), .int .i64 p]) (by first | (simp [results, Try.results141, go_sem, *]; done) | (simp (disch := (first | omega | (simp; done) | (simp; omega))) [results, Try.results141, go_sem, *]; done) | (simp only [results, Try.results141]; go_simp; done)) rfl ⟨rfl, ?_⟩
  (repeat' (first | (with_reducible exact Below.refl _ _) | (with_reducible assumption) | (with_reducible refine Below.alloc ?_ ?_ _) | (with_reducible refine Below.drew ?_) | (with_reducible refine below_drewN ?_ _) | (with_reducible refine Below.setCell ?_ ?_ _) | (with_reducible refine chain ?_ (by assumption) ?_) | omega | (simp; done) | (simp; omega)))

set_option maxRecDepth 100000 in
set_option maxHeartbeats 2000000 in
theorem kapplyW {n c A B : Nat} {p kd : Int} {w : World} (h5 : n ≤ 5) (hA : A < n) (hc : c < 2 ^ n) (p1 : -100 ≤ p) (p2 : p ≤ 100) :
    Calls Try.prog 151 #[.agg #[.int .i64 (n : Int), .int .i64 (c : Int), .int .i64 p], .agg #[.int .i64 kd, .int .i64 (A : Int), .int .i64 (B : Int)]] w fun ee w' => ee = .returned (.agg #[.int .i64 (n : Int), .int .i64 (c : Int), .int .i64 (p + 1)]) ∧ Below w.heap.size w w' := by
  have hc9 : c < 32 := Nat.lt_of_lt_of_le hc (pow_le h5)
  go_enter Try.func151, Try.ntmps151
  go_wp2_with (fail)
  refine (kturn (by omega) (by omega) (by omega) (by omega)).mono ?_
  rintro ee w1 ⟨rfl, hb1⟩
  obtain ⟨hc1, hf1, _⟩ := bcell hb1; have hz1 := hb1.size; (try simp at hz1); (try have hx10 : w.heap.size < w1.heap.size := (by omega)); (try have hx11 : w.heap.size + 1 < w1.heap.size := (by omega)); (try have hx12 : w.heap.size + 1 + 1 < w1.heap.size := (by omega)); (try have hx13 : w.heap.size + 1 + 1 + 1 < w1.heap.size := (by omega)); (try have hx14 : w.heap.size + 1 + 1 + 1 + 1 < w1.heap.size := (by omega))
  go_wp2_with (fail)
  refine bodyPost_ret (v := .agg #[.int .i64 (n : Int), .int .i64 (c : Int), .int .i64 (p + 1)]) (by first | (simp [results, Try.results151, go_sem, *]; done) | (simp (disch := (first | omega | (simp; done) | (simp; omega))) [results, Try.results151, go_sem, *]; done) | (simp only [results, Try.results151]; go_simp; done)) rfl ⟨rfl, ?_⟩
  (repeat' (first | (with_reducible exact Below.refl _ _) | (with_reducible assumption) | (with_reducible refine Below.alloc ?_ ?_ _) | (with_reducible refine Below.drew ?_) | (with_reducible refine below_drewN ?_ _) | (with_reducible refine Below.setCell ?_ ?_ _) | (with_reducible refine chain ?_ (by assumption) ?_) | omega | (simp; done) | (simp; omega)))

set_option maxRecDepth 100000 in
set_option maxHeartbeats 2000000 in
theorem kapplyZ {n c A B : Nat} {p kd : Int} {w : World} (h5 : n ≤ 5) (hA : A < n) (hc : c < 2 ^ n) (p1 : -100 ≤ p) (p2 : p ≤ 100) :
    Calls Try.prog 142 #[.agg #[.int .i64 (n : Int), .int .i64 (c : Int), .int .i64 p], .agg #[.int .i64 kd, .int .i64 (A : Int), .int .i64 (B : Int)]] w fun ee w' => ee = .returned (.agg #[.int .i64 (n : Int), .int .i64 (c : Int), .int .i64 (p + 4 * ((bitI n c A : Nat) : Int))]) ∧ Below w.heap.size w w' := by
  have hc9 : c < 32 := Nat.lt_of_lt_of_le hc (pow_le h5)
  have b1 : bitI n c A ≤ 1 := by rcases bitI_01 (n := n) (c := c) (q := A) with h | h <;> omega
  have b2 : ((bitI n c A : Nat) : Int) ≤ 1 := by omega
  have b3 : 0 ≤ ((bitI n c A : Nat) : Int) := by omega
  have wq : IntKind.i64.wrap (4 * ((bitI n c A : Nat) : Int)) = 4 * ((bitI n c A : Nat) : Int) := IntWalk.i64_in _ (by omega)
  go_enter Try.func142, Try.ntmps142
  go_upto_region 1 with (fail)
  obtain ⟨W, hW⟩ : ∃ W : World, W = ((w.alloc (.cells #[.int .i64 (n : Int), .int .i64 (c : Int), .int .i64 p] 119)).alloc (.cells #[.int .i64 kd, .int .i64 (A : Int), .int .i64 (B : Int)] 59)).alloc (.cells #[.int .i64 0, .int .i64 0, .int .i64 0] 119) := ⟨_, rfl⟩
  have hbW : Below w.heap.size w W := by rw [hW]; exact (((Below.refl _ _).alloc (Nat.le_refl _) _).alloc (by simp) _).alloc (by simp; omega) _
  have cX : Bx W w.heap.size 119 #[.int .i64 (n : Int), .int .i64 (c : Int), .int .i64 p] := by rw [hW]; exact ((Bx.new rfl).alloc _).alloc _
  have gX : Bx W (w.heap.size + 1) 59 #[.int .i64 kd, .int .i64 (A : Int), .int .i64 (B : Int)] := by rw [hW]; exact (Bx.new (by simp)).alloc _
  have zX : Bx W (w.heap.size + 1 + 1) 119 #[.int .i64 0, .int .i64 0, .int .i64 0] := by rw [hW]; exact Bx.new (by simp)
  have hzW : w.heap.size + 1 + 1 < W.heap.size := by rw [hW]; simp
  rw [← hW]
  clear hW
  have c0 := cX.c 0 rfl
  have c1 := cX.c 1 rfl
  have c2 := cX.c 2 rfl
  have cl := cX.lt
  have g0 := gX.c 0 rfl
  have g1 := gX.c 1 rfl
  have g2 := gX.c 2 rfl
  have gl := gX.lt
  have yc0 : W.drew.cell? ⟨w.heap.size, 0, none⟩ = some (.int .i64 (n : Int)) := c0
  have yc1 : W.drew.cell? ⟨w.heap.size, 1, none⟩ = some (.int .i64 (c : Int)) := c1
  have yc2 : W.drew.cell? ⟨w.heap.size, 2, none⟩ = some (.int .i64 p) := c2
  have yg0 : W.drew.cell? ⟨w.heap.size + 1, 0, none⟩ = some (.int .i64 kd) := g0
  have yg1 : W.drew.cell? ⟨w.heap.size + 1, 1, none⟩ = some (.int .i64 (A : Int)) := g1
  have yg2 : W.drew.cell? ⟨w.heap.size + 1, 2, none⟩ = some (.int .i64 (B : Int)) := g2
  refine wp_region_x (fun w' => w'.cell? ⟨w.heap.size, 0, none⟩ = some (.int .i64 (n : Int)) ∧ w'.cell? ⟨w.heap.size, 1, none⟩ = some (.int .i64 (c : Int)) ∧ w'.cell? ⟨w.heap.size, 2, none⟩ = some (.int .i64 p) ∧ w'.cell? ⟨w.heap.size + 1, 0, none⟩ = some (.int .i64 kd) ∧ w'.cell? ⟨w.heap.size + 1, 1, none⟩ = some (.int .i64 (A : Int)) ∧ w'.cell? ⟨w.heap.size + 1, 2, none⟩ = some (.int .i64 (B : Int))) 7 (by kernel_rfl) ⟨yc0, yc1, yc2, yg0, yg1, yg2⟩ (fun hS0 => ?_)
  refine wpAnyX_take (i := 0) (oi := _) (v := ?_) rfl (by kernel_rfl) (by kernel_rfl) (by kernel_rfl) (by kernel_rfl) (fun _ _ _ h => h) (Or.inl ⟨by rfl, ?_⟩) hS0 ?_
  rotate_left 1
  · (intro w hSw; (try dsimp only at hSw); go_simp; (try with_reducible rfl))
  try simp only [Act.put, List.setIfInBounds_toArray, List.set_cons_zero, List.set_cons_succ]
  refine wpAnyX_take (i := 1) (oi := _) (v := ?_) rfl (by kernel_rfl) (by kernel_rfl) (by kernel_rfl) (by kernel_rfl) (fun _ _ _ h => h) (Or.inl ⟨by rfl, ?_⟩) hS0 ?_
  rotate_left 1
  · (intro w hSw; (try dsimp only at hSw); go_simp; (try with_reducible rfl))
  try simp only [Act.put, List.setIfInBounds_toArray, List.set_cons_zero, List.set_cons_succ]
  refine wpAnyX_take (i := 2) (oi := _) (v := ?_) rfl (by kernel_rfl) (by kernel_rfl) (by kernel_rfl) (by kernel_rfl) (fun _ _ _ h => h) (Or.inl ⟨by rfl, ?_⟩) hS0 ?_
  rotate_left 1
  · (intro w hSw; (try dsimp only at hSw); go_simp; (try with_reducible rfl))
  try simp only [Act.put, List.setIfInBounds_toArray, List.set_cons_zero, List.set_cons_succ]
  refine wpAnyX_take (i := 3) (oi := _) (v := ?_) rfl (by kernel_rfl) (by kernel_rfl) (by kernel_rfl) (by kernel_rfl) (fun _ _ _ h => h) (Or.inl ⟨by rfl, ?_⟩) hS0 ?_
  rotate_left 1
  · (intro w hSw; (try dsimp only at hSw); go_simp; (try with_reducible rfl))
  try simp only [Act.put, List.setIfInBounds_toArray, List.set_cons_zero, List.set_cons_succ]
  refine wpAnyX_one (i := 4) (o := _) rfl (by kernel_rfl) (fun K hK => ?_)
  go_simp
  refine (kbit h5 hA hc9).mono ?_
  rintro ee v0 ⟨rfl, hbv00⟩
  have hbv0 := undrewK hbv00
  have hzv0 := hbv0.size
  refine hK.out _ _ (fun _ => ?_) (fun hS1 => ?_)
  · exact ⟨kc hbv00 (hS0.1), kc hbv00 (hS0.2.1), kc hbv00 (hS0.2.2.1), kc hbv00 (hS0.2.2.2.1), kc hbv00 (hS0.2.2.2.2.1), kc hbv00 (hS0.2.2.2.2.2)⟩
  clear hK K
  have hS1 := hS1 (by decide)
  try simp only [Act.put, List.setIfInBounds_toArray, List.set_cons_zero, List.set_cons_succ]
  refine wpAnyX_take (i := 5) (oi := _) (v := ?_) rfl (by kernel_rfl) (by kernel_rfl) (by kernel_rfl) (by kernel_rfl) (fun _ _ _ h => h) (Or.inl ⟨by rfl, ?_⟩) hS1 ?_
  rotate_left 1
  · (intro w hSw; (try dsimp only at hSw); go_simp; (try with_reducible rfl))
  try simp only [Act.put, List.setIfInBounds_toArray, List.set_cons_zero, List.set_cons_succ]
  refine wpAnyX_one (i := 6) (o := _) rfl (by kernel_rfl) (fun K hK => ?_)
  go_simp
  refine (kturn (by omega) (by omega) (by omega) (by omega)).mono ?_
  rintro ee v1 ⟨rfl, hbv1⟩
  have hzv1 := hbv1.size
  refine hK.out _ _ (fun _ => ?_) (fun hS2 => ?_)
  · exact ⟨kc hbv1 (hS1.1), kc hbv1 (hS1.2.1), kc hbv1 (hS1.2.2.1), kc hbv1 (hS1.2.2.2.1), kc hbv1 (hS1.2.2.2.2.1), kc hbv1 (hS1.2.2.2.2.2)⟩
  clear hK K
  have hS2 := hS2 (by decide)
  try simp only [Act.put, List.setIfInBounds_toArray, List.set_cons_zero, List.set_cons_succ]
  refine wpAnyX_one (i := 7) (o := _) rfl (by kernel_rfl) (fun K hK => ?_)
  have dX := ((cX.mono hbv0).mono hbv1)
  have d0 := dX.c 0 rfl
  have d1 := dX.c 1 rfl
  have d2 := dX.c 2 rfl
  have df := dX.f
  have dl := dX.lt
  have hX := ((gX.mono hbv0).mono hbv1)
  have h0 := hX.c 0 rfl
  have h1 := hX.c 1 rfl
  have h2 := hX.c 2 rfl
  have hf := hX.f
  have hl := hX.lt
  have eX := ((zX.mono hbv0).mono hbv1)
  have e0 := eX.c 0 rfl
  have e1 := eX.c 1 rfl
  have e2 := eX.c 2 rfl
  have ef := eX.f
  have el := eX.lt
  have ne1 : w.heap.size ≠ w.heap.size + 1 + 1 := by omega
  have ne2 : w.heap.size + 1 ≠ w.heap.size + 1 + 1 := by omega
  have ne3 : w.heap.size + 1 + 1 ≠ w.heap.size := by omega
  have ne4 : w.heap.size + 1 + 1 ≠ w.heap.size + 1 := by omega
  go_simp
  refine hK.out _ _ (fun h => absurd rfl h) (fun _ => ?_)
  clear hK K
  try simp only [Act.put, List.setIfInBounds_toArray, List.set_cons_zero, List.set_cons_succ]
  refine wpAnyX_done (by kernel_rfl) ?_ _
  go_wp2_with (fail)
  refine bodyPost_ret (v := .agg #[.int .i64 (n : Int), .int .i64 (c : Int), .int .i64 (p + 4 * ((bitI n c A : Nat) : Int))]) (by first | (simp [results, Try.results142, go_sem, *]; done) | (simp (disch := (first | omega | (simp; done) | (simp; omega))) [results, Try.results142, go_sem, *]; done) | (simp only [results, Try.results142]; go_simp; done)) rfl ⟨rfl, ?_⟩
  have chbv0 := chain hbW hbv0 hbW.size
  have chbv1 := chain chbv0 hbv1 chbv0.size
  (repeat' (first | (with_reducible exact Below.refl _ _) | (with_reducible assumption) | (with_reducible refine Below.alloc ?_ ?_ _) | (with_reducible refine Below.drew ?_) | (with_reducible refine below_drewN ?_ _) | (with_reducible refine Below.setCell ?_ ?_ _) | (with_reducible refine chain ?_ (by assumption) ?_) | omega | (simp; done) | (simp; omega)))

set_option maxRecDepth 100000 in
set_option maxHeartbeats 2000000 in
theorem kapplyS {n c A B : Nat} {p kd : Int} {w : World} (h5 : n ≤ 5) (hA : A < n) (hc : c < 2 ^ n) (p1 : -100 ≤ p) (p2 : p ≤ 100) :
    Calls Try.prog 144 #[.agg #[.int .i64 (n : Int), .int .i64 (c : Int), .int .i64 p], .agg #[.int .i64 kd, .int .i64 (A : Int), .int .i64 (B : Int)]] w fun ee w' => ee = .returned (.agg #[.int .i64 (n : Int), .int .i64 (c : Int), .int .i64 (p + 2 * ((bitI n c A : Nat) : Int))]) ∧ Below w.heap.size w w' := by
  have hc9 : c < 32 := Nat.lt_of_lt_of_le hc (pow_le h5)
  have b1 : bitI n c A ≤ 1 := by rcases bitI_01 (n := n) (c := c) (q := A) with h | h <;> omega
  have b2 : ((bitI n c A : Nat) : Int) ≤ 1 := by omega
  have b3 : 0 ≤ ((bitI n c A : Nat) : Int) := by omega
  have wq : IntKind.i64.wrap (2 * ((bitI n c A : Nat) : Int)) = 2 * ((bitI n c A : Nat) : Int) := IntWalk.i64_in _ (by omega)
  go_enter Try.func144, Try.ntmps144
  go_upto_region 1 with (fail)
  obtain ⟨W, hW⟩ : ∃ W : World, W = ((w.alloc (.cells #[.int .i64 (n : Int), .int .i64 (c : Int), .int .i64 p] 119)).alloc (.cells #[.int .i64 kd, .int .i64 (A : Int), .int .i64 (B : Int)] 59)).alloc (.cells #[.int .i64 0, .int .i64 0, .int .i64 0] 119) := ⟨_, rfl⟩
  have hbW : Below w.heap.size w W := by rw [hW]; exact (((Below.refl _ _).alloc (Nat.le_refl _) _).alloc (by simp) _).alloc (by simp; omega) _
  have cX : Bx W w.heap.size 119 #[.int .i64 (n : Int), .int .i64 (c : Int), .int .i64 p] := by rw [hW]; exact ((Bx.new rfl).alloc _).alloc _
  have gX : Bx W (w.heap.size + 1) 59 #[.int .i64 kd, .int .i64 (A : Int), .int .i64 (B : Int)] := by rw [hW]; exact (Bx.new (by simp)).alloc _
  have zX : Bx W (w.heap.size + 1 + 1) 119 #[.int .i64 0, .int .i64 0, .int .i64 0] := by rw [hW]; exact Bx.new (by simp)
  have hzW : w.heap.size + 1 + 1 < W.heap.size := by rw [hW]; simp
  rw [← hW]
  clear hW
  have c0 := cX.c 0 rfl
  have c1 := cX.c 1 rfl
  have c2 := cX.c 2 rfl
  have cl := cX.lt
  have g0 := gX.c 0 rfl
  have g1 := gX.c 1 rfl
  have g2 := gX.c 2 rfl
  have gl := gX.lt
  have yc0 : W.drew.cell? ⟨w.heap.size, 0, none⟩ = some (.int .i64 (n : Int)) := c0
  have yc1 : W.drew.cell? ⟨w.heap.size, 1, none⟩ = some (.int .i64 (c : Int)) := c1
  have yc2 : W.drew.cell? ⟨w.heap.size, 2, none⟩ = some (.int .i64 p) := c2
  have yg0 : W.drew.cell? ⟨w.heap.size + 1, 0, none⟩ = some (.int .i64 kd) := g0
  have yg1 : W.drew.cell? ⟨w.heap.size + 1, 1, none⟩ = some (.int .i64 (A : Int)) := g1
  have yg2 : W.drew.cell? ⟨w.heap.size + 1, 2, none⟩ = some (.int .i64 (B : Int)) := g2
  refine wp_region_x (fun w' => w'.cell? ⟨w.heap.size, 0, none⟩ = some (.int .i64 (n : Int)) ∧ w'.cell? ⟨w.heap.size, 1, none⟩ = some (.int .i64 (c : Int)) ∧ w'.cell? ⟨w.heap.size, 2, none⟩ = some (.int .i64 p) ∧ w'.cell? ⟨w.heap.size + 1, 0, none⟩ = some (.int .i64 kd) ∧ w'.cell? ⟨w.heap.size + 1, 1, none⟩ = some (.int .i64 (A : Int)) ∧ w'.cell? ⟨w.heap.size + 1, 2, none⟩ = some (.int .i64 (B : Int))) 7 (by kernel_rfl) ⟨yc0, yc1, yc2, yg0, yg1, yg2⟩ (fun hS0 => ?_)
  refine wpAnyX_take (i := 0) (oi := _) (v := ?_) rfl (by kernel_rfl) (by kernel_rfl) (by kernel_rfl) (by kernel_rfl) (fun _ _ _ h => h) (Or.inl ⟨by rfl, ?_⟩) hS0 ?_
  rotate_left 1
  · (intro w hSw; (try dsimp only at hSw); go_simp; (try with_reducible rfl))
  try simp only [Act.put, List.setIfInBounds_toArray, List.set_cons_zero, List.set_cons_succ]
  refine wpAnyX_take (i := 1) (oi := _) (v := ?_) rfl (by kernel_rfl) (by kernel_rfl) (by kernel_rfl) (by kernel_rfl) (fun _ _ _ h => h) (Or.inl ⟨by rfl, ?_⟩) hS0 ?_
  rotate_left 1
  · (intro w hSw; (try dsimp only at hSw); go_simp; (try with_reducible rfl))
  try simp only [Act.put, List.setIfInBounds_toArray, List.set_cons_zero, List.set_cons_succ]
  refine wpAnyX_take (i := 2) (oi := _) (v := ?_) rfl (by kernel_rfl) (by kernel_rfl) (by kernel_rfl) (by kernel_rfl) (fun _ _ _ h => h) (Or.inl ⟨by rfl, ?_⟩) hS0 ?_
  rotate_left 1
  · (intro w hSw; (try dsimp only at hSw); go_simp; (try with_reducible rfl))
  try simp only [Act.put, List.setIfInBounds_toArray, List.set_cons_zero, List.set_cons_succ]
  refine wpAnyX_take (i := 3) (oi := _) (v := ?_) rfl (by kernel_rfl) (by kernel_rfl) (by kernel_rfl) (by kernel_rfl) (fun _ _ _ h => h) (Or.inl ⟨by rfl, ?_⟩) hS0 ?_
  rotate_left 1
  · (intro w hSw; (try dsimp only at hSw); go_simp; (try with_reducible rfl))
  try simp only [Act.put, List.setIfInBounds_toArray, List.set_cons_zero, List.set_cons_succ]
  refine wpAnyX_one (i := 4) (o := _) rfl (by kernel_rfl) (fun K hK => ?_)
  go_simp
  refine (kbit h5 hA hc9).mono ?_
  rintro ee v0 ⟨rfl, hbv00⟩
  have hbv0 := undrewK hbv00
  have hzv0 := hbv0.size
  refine hK.out _ _ (fun _ => ?_) (fun hS1 => ?_)
  · exact ⟨kc hbv00 (hS0.1), kc hbv00 (hS0.2.1), kc hbv00 (hS0.2.2.1), kc hbv00 (hS0.2.2.2.1), kc hbv00 (hS0.2.2.2.2.1), kc hbv00 (hS0.2.2.2.2.2)⟩
  clear hK K
  have hS1 := hS1 (by decide)
  try simp only [Act.put, List.setIfInBounds_toArray, List.set_cons_zero, List.set_cons_succ]
  refine wpAnyX_take (i := 5) (oi := _) (v := ?_) rfl (by kernel_rfl) (by kernel_rfl) (by kernel_rfl) (by kernel_rfl) (fun _ _ _ h => h) (Or.inl ⟨by rfl, ?_⟩) hS1 ?_
  rotate_left 1
  · (intro w hSw; (try dsimp only at hSw); go_simp; (try with_reducible rfl))
  try simp only [Act.put, List.setIfInBounds_toArray, List.set_cons_zero, List.set_cons_succ]
  refine wpAnyX_one (i := 6) (o := _) rfl (by kernel_rfl) (fun K hK => ?_)
  go_simp
  refine (kturn (by omega) (by omega) (by omega) (by omega)).mono ?_
  rintro ee v1 ⟨rfl, hbv1⟩
  have hzv1 := hbv1.size
  refine hK.out _ _ (fun _ => ?_) (fun hS2 => ?_)
  · exact ⟨kc hbv1 (hS1.1), kc hbv1 (hS1.2.1), kc hbv1 (hS1.2.2.1), kc hbv1 (hS1.2.2.2.1), kc hbv1 (hS1.2.2.2.2.1), kc hbv1 (hS1.2.2.2.2.2)⟩
  clear hK K
  have hS2 := hS2 (by decide)
  try simp only [Act.put, List.setIfInBounds_toArray, List.set_cons_zero, List.set_cons_succ]
  refine wpAnyX_one (i := 7) (o := _) rfl (by kernel_rfl) (fun K hK => ?_)
  have dX := ((cX.mono hbv0).mono hbv1)
  have d0 := dX.c 0 rfl
  have d1 := dX.c 1 rfl
  have d2 := dX.c 2 rfl
  have df := dX.f
  have dl := dX.lt
  have hX := ((gX.mono hbv0).mono hbv1)
  have h0 := hX.c 0 rfl
  have h1 := hX.c 1 rfl
  have h2 := hX.c 2 rfl
  have hf := hX.f
  have hl := hX.lt
  have eX := ((zX.mono hbv0).mono hbv1)
  have e0 := eX.c 0 rfl
  have e1 := eX.c 1 rfl
  have e2 := eX.c 2 rfl
  have ef := eX.f
  have el := eX.lt
  have ne1 : w.heap.size ≠ w.heap.size + 1 + 1 := by omega
  have ne2 : w.heap.size + 1 ≠ w.heap.size + 1 + 1 := by omega
  have ne3 : w.heap.size + 1 + 1 ≠ w.heap.size := by omega
  have ne4 : w.heap.size + 1 + 1 ≠ w.heap.size + 1 := by omega
  go_simp
  refine hK.out _ _ (fun h => absurd rfl h) (fun _ => ?_)
  clear hK K
  try simp only [Act.put, List.setIfInBounds_toArray, List.set_cons_zero, List.set_cons_succ]
  refine wpAnyX_done (by kernel_rfl) ?_ _
  go_wp2_with (fail)
  refine bodyPost_ret (v := .agg #[.int .i64 (n : Int), .int .i64 (c : Int), .int .i64 (p + 2 * ((bitI n c A : Nat) : Int))]) (by first | (simp [results, Try.results144, go_sem, *]; done) | (simp (disch := (first | omega | (simp; done) | (simp; omega))) [results, Try.results144, go_sem, *]; done) | (simp only [results, Try.results144]; go_simp; done)) rfl ⟨rfl, ?_⟩
  have chbv0 := chain hbW hbv0 hbW.size
  have chbv1 := chain chbv0 hbv1 chbv0.size
  (repeat' (first | (with_reducible exact Below.refl _ _) | (with_reducible assumption) | (with_reducible refine Below.alloc ?_ ?_ _) | (with_reducible refine Below.drew ?_) | (with_reducible refine below_drewN ?_ _) | (with_reducible refine Below.setCell ?_ ?_ _) | (with_reducible refine chain ?_ (by assumption) ?_) | omega | (simp; done) | (simp; omega)))

set_option maxRecDepth 100000 in
set_option maxHeartbeats 2000000 in
theorem kapplySdg {n c A B : Nat} {p kd : Int} {w : World} (h5 : n ≤ 5) (hA : A < n) (hc : c < 2 ^ n) (p1 : -100 ≤ p) (p2 : p ≤ 100) :
    Calls Try.prog 145 #[.agg #[.int .i64 (n : Int), .int .i64 (c : Int), .int .i64 p], .agg #[.int .i64 kd, .int .i64 (A : Int), .int .i64 (B : Int)]] w fun ee w' => ee = .returned (.agg #[.int .i64 (n : Int), .int .i64 (c : Int), .int .i64 (p + -2 * ((bitI n c A : Nat) : Int))]) ∧ Below w.heap.size w w' := by
  have hc9 : c < 32 := Nat.lt_of_lt_of_le hc (pow_le h5)
  have b1 : bitI n c A ≤ 1 := by rcases bitI_01 (n := n) (c := c) (q := A) with h | h <;> omega
  have b2 : ((bitI n c A : Nat) : Int) ≤ 1 := by omega
  have b3 : 0 ≤ ((bitI n c A : Nat) : Int) := by omega
  have wq : IntKind.i64.wrap (-2 * ((bitI n c A : Nat) : Int)) = -2 * ((bitI n c A : Nat) : Int) := IntWalk.i64_in _ (by omega)
  go_enter Try.func145, Try.ntmps145
  go_upto_region 1 with (fail)
  obtain ⟨W, hW⟩ : ∃ W : World, W = ((w.alloc (.cells #[.int .i64 (n : Int), .int .i64 (c : Int), .int .i64 p] 119)).alloc (.cells #[.int .i64 kd, .int .i64 (A : Int), .int .i64 (B : Int)] 59)).alloc (.cells #[.int .i64 0, .int .i64 0, .int .i64 0] 119) := ⟨_, rfl⟩
  have hbW : Below w.heap.size w W := by rw [hW]; exact (((Below.refl _ _).alloc (Nat.le_refl _) _).alloc (by simp) _).alloc (by simp; omega) _
  have cX : Bx W w.heap.size 119 #[.int .i64 (n : Int), .int .i64 (c : Int), .int .i64 p] := by rw [hW]; exact ((Bx.new rfl).alloc _).alloc _
  have gX : Bx W (w.heap.size + 1) 59 #[.int .i64 kd, .int .i64 (A : Int), .int .i64 (B : Int)] := by rw [hW]; exact (Bx.new (by simp)).alloc _
  have zX : Bx W (w.heap.size + 1 + 1) 119 #[.int .i64 0, .int .i64 0, .int .i64 0] := by rw [hW]; exact Bx.new (by simp)
  have hzW : w.heap.size + 1 + 1 < W.heap.size := by rw [hW]; simp
  rw [← hW]
  clear hW
  have c0 := cX.c 0 rfl
  have c1 := cX.c 1 rfl
  have c2 := cX.c 2 rfl
  have cl := cX.lt
  have g0 := gX.c 0 rfl
  have g1 := gX.c 1 rfl
  have g2 := gX.c 2 rfl
  have gl := gX.lt
  have yc0 : W.drew.cell? ⟨w.heap.size, 0, none⟩ = some (.int .i64 (n : Int)) := c0
  have yc1 : W.drew.cell? ⟨w.heap.size, 1, none⟩ = some (.int .i64 (c : Int)) := c1
  have yc2 : W.drew.cell? ⟨w.heap.size, 2, none⟩ = some (.int .i64 p) := c2
  have yg0 : W.drew.cell? ⟨w.heap.size + 1, 0, none⟩ = some (.int .i64 kd) := g0
  have yg1 : W.drew.cell? ⟨w.heap.size + 1, 1, none⟩ = some (.int .i64 (A : Int)) := g1
  have yg2 : W.drew.cell? ⟨w.heap.size + 1, 2, none⟩ = some (.int .i64 (B : Int)) := g2
  refine wp_region_x (fun w' => w'.cell? ⟨w.heap.size, 0, none⟩ = some (.int .i64 (n : Int)) ∧ w'.cell? ⟨w.heap.size, 1, none⟩ = some (.int .i64 (c : Int)) ∧ w'.cell? ⟨w.heap.size, 2, none⟩ = some (.int .i64 p) ∧ w'.cell? ⟨w.heap.size + 1, 0, none⟩ = some (.int .i64 kd) ∧ w'.cell? ⟨w.heap.size + 1, 1, none⟩ = some (.int .i64 (A : Int)) ∧ w'.cell? ⟨w.heap.size + 1, 2, none⟩ = some (.int .i64 (B : Int))) 7 (by kernel_rfl) ⟨yc0, yc1, yc2, yg0, yg1, yg2⟩ (fun hS0 => ?_)
  refine wpAnyX_take (i := 0) (oi := _) (v := ?_) rfl (by kernel_rfl) (by kernel_rfl) (by kernel_rfl) (by kernel_rfl) (fun _ _ _ h => h) (Or.inl ⟨by rfl, ?_⟩) hS0 ?_
  rotate_left 1
  · (intro w hSw; (try dsimp only at hSw); go_simp; (try with_reducible rfl))
  try simp only [Act.put, List.setIfInBounds_toArray, List.set_cons_zero, List.set_cons_succ]
  refine wpAnyX_take (i := 1) (oi := _) (v := ?_) rfl (by kernel_rfl) (by kernel_rfl) (by kernel_rfl) (by kernel_rfl) (fun _ _ _ h => h) (Or.inl ⟨by rfl, ?_⟩) hS0 ?_
  rotate_left 1
  · (intro w hSw; (try dsimp only at hSw); go_simp; (try with_reducible rfl))
  try simp only [Act.put, List.setIfInBounds_toArray, List.set_cons_zero, List.set_cons_succ]
  refine wpAnyX_take (i := 2) (oi := _) (v := ?_) rfl (by kernel_rfl) (by kernel_rfl) (by kernel_rfl) (by kernel_rfl) (fun _ _ _ h => h) (Or.inl ⟨by rfl, ?_⟩) hS0 ?_
  rotate_left 1
  · (intro w hSw; (try dsimp only at hSw); go_simp; (try with_reducible rfl))
  try simp only [Act.put, List.setIfInBounds_toArray, List.set_cons_zero, List.set_cons_succ]
  refine wpAnyX_take (i := 3) (oi := _) (v := ?_) rfl (by kernel_rfl) (by kernel_rfl) (by kernel_rfl) (by kernel_rfl) (fun _ _ _ h => h) (Or.inl ⟨by rfl, ?_⟩) hS0 ?_
  rotate_left 1
  · (intro w hSw; (try dsimp only at hSw); go_simp; (try with_reducible rfl))
  try simp only [Act.put, List.setIfInBounds_toArray, List.set_cons_zero, List.set_cons_succ]
  refine wpAnyX_one (i := 4) (o := _) rfl (by kernel_rfl) (fun K hK => ?_)
  go_simp
  refine (kbit h5 hA hc9).mono ?_
  rintro ee v0 ⟨rfl, hbv00⟩
  have hbv0 := undrewK hbv00
  have hzv0 := hbv0.size
  refine hK.out _ _ (fun _ => ?_) (fun hS1 => ?_)
  · exact ⟨kc hbv00 (hS0.1), kc hbv00 (hS0.2.1), kc hbv00 (hS0.2.2.1), kc hbv00 (hS0.2.2.2.1), kc hbv00 (hS0.2.2.2.2.1), kc hbv00 (hS0.2.2.2.2.2)⟩
  clear hK K
  have hS1 := hS1 (by decide)
  try simp only [Act.put, List.setIfInBounds_toArray, List.set_cons_zero, List.set_cons_succ]
  refine wpAnyX_take (i := 5) (oi := _) (v := ?_) rfl (by kernel_rfl) (by kernel_rfl) (by kernel_rfl) (by kernel_rfl) (fun _ _ _ h => h) (Or.inl ⟨by rfl, ?_⟩) hS1 ?_
  rotate_left 1
  · (intro w hSw; (try dsimp only at hSw); go_simp; (try with_reducible rfl))
  try simp only [Act.put, List.setIfInBounds_toArray, List.set_cons_zero, List.set_cons_succ]
  refine wpAnyX_one (i := 6) (o := _) rfl (by kernel_rfl) (fun K hK => ?_)
  go_simp
  refine (kturn (by omega) (by omega) (by omega) (by omega)).mono ?_
  rintro ee v1 ⟨rfl, hbv1⟩
  have hzv1 := hbv1.size
  refine hK.out _ _ (fun _ => ?_) (fun hS2 => ?_)
  · exact ⟨kc hbv1 (hS1.1), kc hbv1 (hS1.2.1), kc hbv1 (hS1.2.2.1), kc hbv1 (hS1.2.2.2.1), kc hbv1 (hS1.2.2.2.2.1), kc hbv1 (hS1.2.2.2.2.2)⟩
  clear hK K
  have hS2 := hS2 (by decide)
  try simp only [Act.put, List.setIfInBounds_toArray, List.set_cons_zero, List.set_cons_succ]
  refine wpAnyX_one (i := 7) (o := _) rfl (by kernel_rfl) (fun K hK => ?_)
  have dX := ((cX.mono hbv0).mono hbv1)
  have d0 := dX.c 0 rfl
  have d1 := dX.c 1 rfl
  have d2 := dX.c 2 rfl
  have df := dX.f
  have dl := dX.lt
  have hX := ((gX.mono hbv0).mono hbv1)
  have h0 := hX.c 0 rfl
  have h1 := hX.c 1 rfl
  have h2 := hX.c 2 rfl
  have hf := hX.f
  have hl := hX.lt
  have eX := ((zX.mono hbv0).mono hbv1)
  have e0 := eX.c 0 rfl
  have e1 := eX.c 1 rfl
  have e2 := eX.c 2 rfl
  have ef := eX.f
  have el := eX.lt
  have ne1 : w.heap.size ≠ w.heap.size + 1 + 1 := by omega
  have ne2 : w.heap.size + 1 ≠ w.heap.size + 1 + 1 := by omega
  have ne3 : w.heap.size + 1 + 1 ≠ w.heap.size := by omega
  have ne4 : w.heap.size + 1 + 1 ≠ w.heap.size + 1 := by omega
  go_simp
  refine hK.out _ _ (fun h => absurd rfl h) (fun _ => ?_)
  clear hK K
  try simp only [Act.put, List.setIfInBounds_toArray, List.set_cons_zero, List.set_cons_succ]
  refine wpAnyX_done (by kernel_rfl) ?_ _
  go_wp2_with (fail)
  refine bodyPost_ret (v := .agg #[.int .i64 (n : Int), .int .i64 (c : Int), .int .i64 (p + -2 * ((bitI n c A : Nat) : Int))]) (by first | (simp [results, Try.results145, go_sem, *]; done) | (simp (disch := (first | omega | (simp; done) | (simp; omega))) [results, Try.results145, go_sem, *]; done) | (simp only [results, Try.results145]; go_simp; done)) rfl ⟨rfl, ?_⟩
  have chbv0 := chain hbW hbv0 hbW.size
  have chbv1 := chain chbv0 hbv1 chbv0.size
  (repeat' (first | (with_reducible exact Below.refl _ _) | (with_reducible assumption) | (with_reducible refine Below.alloc ?_ ?_ _) | (with_reducible refine Below.drew ?_) | (with_reducible refine below_drewN ?_ _) | (with_reducible refine Below.setCell ?_ ?_ _) | (with_reducible refine chain ?_ (by assumption) ?_) | omega | (simp; done) | (simp; omega)))

set_option maxRecDepth 100000 in
set_option maxHeartbeats 2000000 in
theorem kapplyT {n c A B : Nat} {p kd : Int} {w : World} (h5 : n ≤ 5) (hA : A < n) (hc : c < 2 ^ n) (p1 : -100 ≤ p) (p2 : p ≤ 100) :
    Calls Try.prog 146 #[.agg #[.int .i64 (n : Int), .int .i64 (c : Int), .int .i64 p], .agg #[.int .i64 kd, .int .i64 (A : Int), .int .i64 (B : Int)]] w fun ee w' => ee = .returned (.agg #[.int .i64 (n : Int), .int .i64 (c : Int), .int .i64 (p + ((bitI n c A : Nat) : Int))]) ∧ Below w.heap.size w w' := by
  have hc9 : c < 32 := Nat.lt_of_lt_of_le hc (pow_le h5)
  have b1 : bitI n c A ≤ 1 := by rcases bitI_01 (n := n) (c := c) (q := A) with h | h <;> omega
  have b2 : ((bitI n c A : Nat) : Int) ≤ 1 := by omega
  have b3 : 0 ≤ ((bitI n c A : Nat) : Int) := by omega
  go_enter Try.func146, Try.ntmps146
  go_upto_region 1 with (fail)
  obtain ⟨W, hW⟩ : ∃ W : World, W = ((w.alloc (.cells #[.int .i64 (n : Int), .int .i64 (c : Int), .int .i64 p] 119)).alloc (.cells #[.int .i64 kd, .int .i64 (A : Int), .int .i64 (B : Int)] 59)).alloc (.cells #[.int .i64 0, .int .i64 0, .int .i64 0] 119) := ⟨_, rfl⟩
  have hbW : Below w.heap.size w W := by rw [hW]; exact (((Below.refl _ _).alloc (Nat.le_refl _) _).alloc (by simp) _).alloc (by simp; omega) _
  have cX : Bx W w.heap.size 119 #[.int .i64 (n : Int), .int .i64 (c : Int), .int .i64 p] := by rw [hW]; exact ((Bx.new rfl).alloc _).alloc _
  have gX : Bx W (w.heap.size + 1) 59 #[.int .i64 kd, .int .i64 (A : Int), .int .i64 (B : Int)] := by rw [hW]; exact (Bx.new (by simp)).alloc _
  have zX : Bx W (w.heap.size + 1 + 1) 119 #[.int .i64 0, .int .i64 0, .int .i64 0] := by rw [hW]; exact Bx.new (by simp)
  have hzW : w.heap.size + 1 + 1 < W.heap.size := by rw [hW]; simp
  rw [← hW]
  clear hW
  have c0 := cX.c 0 rfl
  have c1 := cX.c 1 rfl
  have c2 := cX.c 2 rfl
  have cl := cX.lt
  have g0 := gX.c 0 rfl
  have g1 := gX.c 1 rfl
  have g2 := gX.c 2 rfl
  have gl := gX.lt
  have yc0 : W.drew.cell? ⟨w.heap.size, 0, none⟩ = some (.int .i64 (n : Int)) := c0
  have yc1 : W.drew.cell? ⟨w.heap.size, 1, none⟩ = some (.int .i64 (c : Int)) := c1
  have yc2 : W.drew.cell? ⟨w.heap.size, 2, none⟩ = some (.int .i64 p) := c2
  have yg0 : W.drew.cell? ⟨w.heap.size + 1, 0, none⟩ = some (.int .i64 kd) := g0
  have yg1 : W.drew.cell? ⟨w.heap.size + 1, 1, none⟩ = some (.int .i64 (A : Int)) := g1
  have yg2 : W.drew.cell? ⟨w.heap.size + 1, 2, none⟩ = some (.int .i64 (B : Int)) := g2
  refine wp_region_x (fun w' => w'.cell? ⟨w.heap.size, 0, none⟩ = some (.int .i64 (n : Int)) ∧ w'.cell? ⟨w.heap.size, 1, none⟩ = some (.int .i64 (c : Int)) ∧ w'.cell? ⟨w.heap.size, 2, none⟩ = some (.int .i64 p) ∧ w'.cell? ⟨w.heap.size + 1, 0, none⟩ = some (.int .i64 kd) ∧ w'.cell? ⟨w.heap.size + 1, 1, none⟩ = some (.int .i64 (A : Int)) ∧ w'.cell? ⟨w.heap.size + 1, 2, none⟩ = some (.int .i64 (B : Int))) 6 (by kernel_rfl) ⟨yc0, yc1, yc2, yg0, yg1, yg2⟩ (fun hS0 => ?_)
  refine wpAnyX_take (i := 0) (oi := _) (v := ?_) rfl (by kernel_rfl) (by kernel_rfl) (by kernel_rfl) (by kernel_rfl) (fun _ _ _ h => h) (Or.inl ⟨by rfl, ?_⟩) hS0 ?_
  rotate_left 1
  · (intro w hSw; (try dsimp only at hSw); go_simp; (try with_reducible rfl))
  try simp only [Act.put, List.setIfInBounds_toArray, List.set_cons_zero, List.set_cons_succ]
  refine wpAnyX_take (i := 1) (oi := _) (v := ?_) rfl (by kernel_rfl) (by kernel_rfl) (by kernel_rfl) (by kernel_rfl) (fun _ _ _ h => h) (Or.inl ⟨by rfl, ?_⟩) hS0 ?_
  rotate_left 1
  · (intro w hSw; (try dsimp only at hSw); go_simp; (try with_reducible rfl))
  try simp only [Act.put, List.setIfInBounds_toArray, List.set_cons_zero, List.set_cons_succ]
  refine wpAnyX_take (i := 2) (oi := _) (v := ?_) rfl (by kernel_rfl) (by kernel_rfl) (by kernel_rfl) (by kernel_rfl) (fun _ _ _ h => h) (Or.inl ⟨by rfl, ?_⟩) hS0 ?_
  rotate_left 1
  · (intro w hSw; (try dsimp only at hSw); go_simp; (try with_reducible rfl))
  try simp only [Act.put, List.setIfInBounds_toArray, List.set_cons_zero, List.set_cons_succ]
  refine wpAnyX_take (i := 3) (oi := _) (v := ?_) rfl (by kernel_rfl) (by kernel_rfl) (by kernel_rfl) (by kernel_rfl) (fun _ _ _ h => h) (Or.inl ⟨by rfl, ?_⟩) hS0 ?_
  rotate_left 1
  · (intro w hSw; (try dsimp only at hSw); go_simp; (try with_reducible rfl))
  try simp only [Act.put, List.setIfInBounds_toArray, List.set_cons_zero, List.set_cons_succ]
  refine wpAnyX_one (i := 4) (o := _) rfl (by kernel_rfl) (fun K hK => ?_)
  go_simp
  refine (kbit h5 hA hc9).mono ?_
  rintro ee v0 ⟨rfl, hbv00⟩
  have hbv0 := undrewK hbv00
  have hzv0 := hbv0.size
  refine hK.out _ _ (fun _ => ?_) (fun hS1 => ?_)
  · exact ⟨kc hbv00 (hS0.1), kc hbv00 (hS0.2.1), kc hbv00 (hS0.2.2.1), kc hbv00 (hS0.2.2.2.1), kc hbv00 (hS0.2.2.2.2.1), kc hbv00 (hS0.2.2.2.2.2)⟩
  clear hK K
  have hS1 := hS1 (by decide)
  try simp only [Act.put, List.setIfInBounds_toArray, List.set_cons_zero, List.set_cons_succ]
  refine wpAnyX_one (i := 5) (o := _) rfl (by kernel_rfl) (fun K hK => ?_)
  go_simp
  refine (kturn (by omega) (by omega) (by omega) (by omega)).mono ?_
  rintro ee v1 ⟨rfl, hbv1⟩
  have hzv1 := hbv1.size
  refine hK.out _ _ (fun _ => ?_) (fun hS2 => ?_)
  · exact ⟨kc hbv1 (hS1.1), kc hbv1 (hS1.2.1), kc hbv1 (hS1.2.2.1), kc hbv1 (hS1.2.2.2.1), kc hbv1 (hS1.2.2.2.2.1), kc hbv1 (hS1.2.2.2.2.2)⟩
  clear hK K
  have hS2 := hS2 (by decide)
  try simp only [Act.put, List.setIfInBounds_toArray, List.set_cons_zero, List.set_cons_succ]
  refine wpAnyX_one (i := 6) (o := _) rfl (by kernel_rfl) (fun K hK => ?_)
  have dX := ((cX.mono hbv0).mono hbv1)
  have d0 := dX.c 0 rfl
  have d1 := dX.c 1 rfl
  have d2 := dX.c 2 rfl
  have df := dX.f
  have dl := dX.lt
  have hX := ((gX.mono hbv0).mono hbv1)
  have h0 := hX.c 0 rfl
  have h1 := hX.c 1 rfl
  have h2 := hX.c 2 rfl
  have hf := hX.f
  have hl := hX.lt
  have eX := ((zX.mono hbv0).mono hbv1)
  have e0 := eX.c 0 rfl
  have e1 := eX.c 1 rfl
  have e2 := eX.c 2 rfl
  have ef := eX.f
  have el := eX.lt
  have ne1 : w.heap.size ≠ w.heap.size + 1 + 1 := by omega
  have ne2 : w.heap.size + 1 ≠ w.heap.size + 1 + 1 := by omega
  have ne3 : w.heap.size + 1 + 1 ≠ w.heap.size := by omega
  have ne4 : w.heap.size + 1 + 1 ≠ w.heap.size + 1 := by omega
  go_simp
  refine hK.out _ _ (fun h => absurd rfl h) (fun _ => ?_)
  clear hK K
  try simp only [Act.put, List.setIfInBounds_toArray, List.set_cons_zero, List.set_cons_succ]
  refine wpAnyX_done (by kernel_rfl) ?_ _
  go_wp2_with (fail)
  refine bodyPost_ret (v := .agg #[.int .i64 (n : Int), .int .i64 (c : Int), .int .i64 (p + ((bitI n c A : Nat) : Int))]) (by first | (simp [results, Try.results146, go_sem, *]; done) | (simp (disch := (first | omega | (simp; done) | (simp; omega))) [results, Try.results146, go_sem, *]; done) | (simp only [results, Try.results146]; go_simp; done)) rfl ⟨rfl, ?_⟩
  have chbv0 := chain hbW hbv0 hbW.size
  have chbv1 := chain chbv0 hbv1 chbv0.size
  (repeat' (first | (with_reducible exact Below.refl _ _) | (with_reducible assumption) | (with_reducible refine Below.alloc ?_ ?_ _) | (with_reducible refine Below.drew ?_) | (with_reducible refine below_drewN ?_ _) | (with_reducible refine Below.setCell ?_ ?_ _) | (with_reducible refine chain ?_ (by assumption) ?_) | omega | (simp; done) | (simp; omega)))

set_option maxRecDepth 100000 in
set_option maxHeartbeats 2000000 in
theorem kapplyTdg {n c A B : Nat} {p kd : Int} {w : World} (h5 : n ≤ 5) (hA : A < n) (hc : c < 2 ^ n) (p1 : -100 ≤ p) (p2 : p ≤ 100) :
    Calls Try.prog 147 #[.agg #[.int .i64 (n : Int), .int .i64 (c : Int), .int .i64 p], .agg #[.int .i64 kd, .int .i64 (A : Int), .int .i64 (B : Int)]] w fun ee w' => ee = .returned (.agg #[.int .i64 (n : Int), .int .i64 (c : Int), .int .i64 (p + -((bitI n c A : Nat) : Int))]) ∧ Below w.heap.size w w' := by
  have hc9 : c < 32 := Nat.lt_of_lt_of_le hc (pow_le h5)
  have b1 : bitI n c A ≤ 1 := by rcases bitI_01 (n := n) (c := c) (q := A) with h | h <;> omega
  have b2 : ((bitI n c A : Nat) : Int) ≤ 1 := by omega
  have b3 : 0 ≤ ((bitI n c A : Nat) : Int) := by omega
  have wq : IntKind.i64.wrap (-((bitI n c A : Nat) : Int)) = -((bitI n c A : Nat) : Int) := IntWalk.i64_in _ (by omega)
  go_enter Try.func147, Try.ntmps147
  go_upto_region 1 with (fail)
  obtain ⟨W, hW⟩ : ∃ W : World, W = ((w.alloc (.cells #[.int .i64 (n : Int), .int .i64 (c : Int), .int .i64 p] 119)).alloc (.cells #[.int .i64 kd, .int .i64 (A : Int), .int .i64 (B : Int)] 59)).alloc (.cells #[.int .i64 0, .int .i64 0, .int .i64 0] 119) := ⟨_, rfl⟩
  have hbW : Below w.heap.size w W := by rw [hW]; exact (((Below.refl _ _).alloc (Nat.le_refl _) _).alloc (by simp) _).alloc (by simp; omega) _
  have cX : Bx W w.heap.size 119 #[.int .i64 (n : Int), .int .i64 (c : Int), .int .i64 p] := by rw [hW]; exact ((Bx.new rfl).alloc _).alloc _
  have gX : Bx W (w.heap.size + 1) 59 #[.int .i64 kd, .int .i64 (A : Int), .int .i64 (B : Int)] := by rw [hW]; exact (Bx.new (by simp)).alloc _
  have zX : Bx W (w.heap.size + 1 + 1) 119 #[.int .i64 0, .int .i64 0, .int .i64 0] := by rw [hW]; exact Bx.new (by simp)
  have hzW : w.heap.size + 1 + 1 < W.heap.size := by rw [hW]; simp
  rw [← hW]
  clear hW
  have c0 := cX.c 0 rfl
  have c1 := cX.c 1 rfl
  have c2 := cX.c 2 rfl
  have cl := cX.lt
  have g0 := gX.c 0 rfl
  have g1 := gX.c 1 rfl
  have g2 := gX.c 2 rfl
  have gl := gX.lt
  have yc0 : W.drew.cell? ⟨w.heap.size, 0, none⟩ = some (.int .i64 (n : Int)) := c0
  have yc1 : W.drew.cell? ⟨w.heap.size, 1, none⟩ = some (.int .i64 (c : Int)) := c1
  have yc2 : W.drew.cell? ⟨w.heap.size, 2, none⟩ = some (.int .i64 p) := c2
  have yg0 : W.drew.cell? ⟨w.heap.size + 1, 0, none⟩ = some (.int .i64 kd) := g0
  have yg1 : W.drew.cell? ⟨w.heap.size + 1, 1, none⟩ = some (.int .i64 (A : Int)) := g1
  have yg2 : W.drew.cell? ⟨w.heap.size + 1, 2, none⟩ = some (.int .i64 (B : Int)) := g2
  refine wp_region_x (fun w' => w'.cell? ⟨w.heap.size, 0, none⟩ = some (.int .i64 (n : Int)) ∧ w'.cell? ⟨w.heap.size, 1, none⟩ = some (.int .i64 (c : Int)) ∧ w'.cell? ⟨w.heap.size, 2, none⟩ = some (.int .i64 p) ∧ w'.cell? ⟨w.heap.size + 1, 0, none⟩ = some (.int .i64 kd) ∧ w'.cell? ⟨w.heap.size + 1, 1, none⟩ = some (.int .i64 (A : Int)) ∧ w'.cell? ⟨w.heap.size + 1, 2, none⟩ = some (.int .i64 (B : Int))) 7 (by kernel_rfl) ⟨yc0, yc1, yc2, yg0, yg1, yg2⟩ (fun hS0 => ?_)
  refine wpAnyX_take (i := 0) (oi := _) (v := ?_) rfl (by kernel_rfl) (by kernel_rfl) (by kernel_rfl) (by kernel_rfl) (fun _ _ _ h => h) (Or.inl ⟨by rfl, ?_⟩) hS0 ?_
  rotate_left 1
  · (intro w hSw; (try dsimp only at hSw); go_simp; (try with_reducible rfl))
  try simp only [Act.put, List.setIfInBounds_toArray, List.set_cons_zero, List.set_cons_succ]
  refine wpAnyX_take (i := 1) (oi := _) (v := ?_) rfl (by kernel_rfl) (by kernel_rfl) (by kernel_rfl) (by kernel_rfl) (fun _ _ _ h => h) (Or.inl ⟨by rfl, ?_⟩) hS0 ?_
  rotate_left 1
  · (intro w hSw; (try dsimp only at hSw); go_simp; (try with_reducible rfl))
  try simp only [Act.put, List.setIfInBounds_toArray, List.set_cons_zero, List.set_cons_succ]
  refine wpAnyX_take (i := 2) (oi := _) (v := ?_) rfl (by kernel_rfl) (by kernel_rfl) (by kernel_rfl) (by kernel_rfl) (fun _ _ _ h => h) (Or.inl ⟨by rfl, ?_⟩) hS0 ?_
  rotate_left 1
  · (intro w hSw; (try dsimp only at hSw); go_simp; (try with_reducible rfl))
  try simp only [Act.put, List.setIfInBounds_toArray, List.set_cons_zero, List.set_cons_succ]
  refine wpAnyX_take (i := 3) (oi := _) (v := ?_) rfl (by kernel_rfl) (by kernel_rfl) (by kernel_rfl) (by kernel_rfl) (fun _ _ _ h => h) (Or.inl ⟨by rfl, ?_⟩) hS0 ?_
  rotate_left 1
  · (intro w hSw; (try dsimp only at hSw); go_simp; (try with_reducible rfl))
  try simp only [Act.put, List.setIfInBounds_toArray, List.set_cons_zero, List.set_cons_succ]
  refine wpAnyX_one (i := 4) (o := _) rfl (by kernel_rfl) (fun K hK => ?_)
  go_simp
  refine (kbit h5 hA hc9).mono ?_
  rintro ee v0 ⟨rfl, hbv00⟩
  have hbv0 := undrewK hbv00
  have hzv0 := hbv0.size
  refine hK.out _ _ (fun _ => ?_) (fun hS1 => ?_)
  · exact ⟨kc hbv00 (hS0.1), kc hbv00 (hS0.2.1), kc hbv00 (hS0.2.2.1), kc hbv00 (hS0.2.2.2.1), kc hbv00 (hS0.2.2.2.2.1), kc hbv00 (hS0.2.2.2.2.2)⟩
  clear hK K
  have hS1 := hS1 (by decide)
  try simp only [Act.put, List.setIfInBounds_toArray, List.set_cons_zero, List.set_cons_succ]
  refine wpAnyX_take (i := 5) (oi := _) (v := ?_) rfl (by kernel_rfl) (by kernel_rfl) (by kernel_rfl) (by kernel_rfl) (fun _ _ _ h => h) (Or.inl ⟨by rfl, ?_⟩) hS1 ?_
  rotate_left 1
  · (intro w hSw; (try dsimp only at hSw); go_simp; (try with_reducible rfl))
  try simp only [Act.put, List.setIfInBounds_toArray, List.set_cons_zero, List.set_cons_succ]
  refine wpAnyX_one (i := 6) (o := _) rfl (by kernel_rfl) (fun K hK => ?_)
  go_simp
  refine (kturn (by omega) (by omega) (by omega) (by omega)).mono ?_
  rintro ee v1 ⟨rfl, hbv1⟩
  have hzv1 := hbv1.size
  refine hK.out _ _ (fun _ => ?_) (fun hS2 => ?_)
  · exact ⟨kc hbv1 (hS1.1), kc hbv1 (hS1.2.1), kc hbv1 (hS1.2.2.1), kc hbv1 (hS1.2.2.2.1), kc hbv1 (hS1.2.2.2.2.1), kc hbv1 (hS1.2.2.2.2.2)⟩
  clear hK K
  have hS2 := hS2 (by decide)
  try simp only [Act.put, List.setIfInBounds_toArray, List.set_cons_zero, List.set_cons_succ]
  refine wpAnyX_one (i := 7) (o := _) rfl (by kernel_rfl) (fun K hK => ?_)
  have dX := ((cX.mono hbv0).mono hbv1)
  have d0 := dX.c 0 rfl
  have d1 := dX.c 1 rfl
  have d2 := dX.c 2 rfl
  have df := dX.f
  have dl := dX.lt
  have hX := ((gX.mono hbv0).mono hbv1)
  have h0 := hX.c 0 rfl
  have h1 := hX.c 1 rfl
  have h2 := hX.c 2 rfl
  have hf := hX.f
  have hl := hX.lt
  have eX := ((zX.mono hbv0).mono hbv1)
  have e0 := eX.c 0 rfl
  have e1 := eX.c 1 rfl
  have e2 := eX.c 2 rfl
  have ef := eX.f
  have el := eX.lt
  have ne1 : w.heap.size ≠ w.heap.size + 1 + 1 := by omega
  have ne2 : w.heap.size + 1 ≠ w.heap.size + 1 + 1 := by omega
  have ne3 : w.heap.size + 1 + 1 ≠ w.heap.size := by omega
  have ne4 : w.heap.size + 1 + 1 ≠ w.heap.size + 1 := by omega
  go_simp
  refine hK.out _ _ (fun h => absurd rfl h) (fun _ => ?_)
  clear hK K
  try simp only [Act.put, List.setIfInBounds_toArray, List.set_cons_zero, List.set_cons_succ]
  refine wpAnyX_done (by kernel_rfl) ?_ _
  go_wp2_with (fail)
  refine bodyPost_ret (v := .agg #[.int .i64 (n : Int), .int .i64 (c : Int), .int .i64 (p + -((bitI n c A : Nat) : Int))]) (by first | (simp [results, Try.results147, go_sem, *]; done) | (simp (disch := (first | omega | (simp; done) | (simp; omega))) [results, Try.results147, go_sem, *]; done) | (simp only [results, Try.results147]; go_simp; done)) rfl ⟨rfl, ?_⟩
  have chbv0 := chain hbW hbv0 hbW.size
  have chbv1 := chain chbv0 hbv1 chbv0.size
  (repeat' (first | (with_reducible exact Below.refl _ _) | (with_reducible assumption) | (with_reducible refine Below.alloc ?_ ?_ _) | (with_reducible refine Below.drew ?_) | (with_reducible refine below_drewN ?_ _) | (with_reducible refine Below.setCell ?_ ?_ _) | (with_reducible refine chain ?_ (by assumption) ?_) | omega | (simp; done) | (simp; omega)))

set_option maxRecDepth 100000 in
set_option maxHeartbeats 2000000 in
theorem kapplyY {n c A B : Nat} {p kd : Int} {w : World} (h5 : n ≤ 5) (hA : A < n) (hc : c < 2 ^ n) (p1 : -100 ≤ p) (p2 : p ≤ 100) :
    Calls Try.prog 143 #[.agg #[.int .i64 (n : Int), .int .i64 (c : Int), .int .i64 p], .agg #[.int .i64 kd, .int .i64 (A : Int), .int .i64 (B : Int)]] w fun ee w' => ee = .returned (.agg #[.int .i64 (n : Int), .int .i64 ((c ^^^ msk n A : Nat) : Int), .int .i64 (p + 4 * ((bitI n c A : Nat) : Int) + 2)]) ∧ Below w.heap.size w w' := by
  have hc9 : c < 32 := Nat.lt_of_lt_of_le hc (pow_le h5)
  have b1 : bitI n c A ≤ 1 := by rcases bitI_01 (n := n) (c := c) (q := A) with h | h <;> omega
  have b2 : ((bitI n c A : Nat) : Int) ≤ 1 := by omega
  have b3 : 0 ≤ ((bitI n c A : Nat) : Int) := by omega
  go_enter Try.func143, Try.ntmps143
  go_upto_region 1 with (fail)
  obtain ⟨W, hW⟩ : ∃ W : World, W = ((w.alloc (.cells #[.int .i64 (n : Int), .int .i64 (c : Int), .int .i64 p] 119)).alloc (.cells #[.int .i64 kd, .int .i64 (A : Int), .int .i64 (B : Int)] 59)).alloc (.cells #[.int .i64 0, .int .i64 0, .int .i64 0] 119) := ⟨_, rfl⟩
  have hbW : Below w.heap.size w W := by rw [hW]; exact (((Below.refl _ _).alloc (Nat.le_refl _) _).alloc (by simp) _).alloc (by simp; omega) _
  have cX : Bx W w.heap.size 119 #[.int .i64 (n : Int), .int .i64 (c : Int), .int .i64 p] := by rw [hW]; exact ((Bx.new rfl).alloc _).alloc _
  have gX : Bx W (w.heap.size + 1) 59 #[.int .i64 kd, .int .i64 (A : Int), .int .i64 (B : Int)] := by rw [hW]; exact (Bx.new (by simp)).alloc _
  have zX : Bx W (w.heap.size + 1 + 1) 119 #[.int .i64 0, .int .i64 0, .int .i64 0] := by rw [hW]; exact Bx.new (by simp)
  have hzW : w.heap.size + 1 + 1 < W.heap.size := by rw [hW]; simp
  rw [← hW]
  clear hW
  have c0 := cX.c 0 rfl
  have c1 := cX.c 1 rfl
  have c2 := cX.c 2 rfl
  have cl := cX.lt
  have g0 := gX.c 0 rfl
  have g1 := gX.c 1 rfl
  have g2 := gX.c 2 rfl
  have gl := gX.lt
  have yc0 : W.drew.cell? ⟨w.heap.size, 0, none⟩ = some (.int .i64 (n : Int)) := c0
  have yc1 : W.drew.cell? ⟨w.heap.size, 1, none⟩ = some (.int .i64 (c : Int)) := c1
  have yc2 : W.drew.cell? ⟨w.heap.size, 2, none⟩ = some (.int .i64 p) := c2
  have yg0 : W.drew.cell? ⟨w.heap.size + 1, 0, none⟩ = some (.int .i64 kd) := g0
  have yg1 : W.drew.cell? ⟨w.heap.size + 1, 1, none⟩ = some (.int .i64 (A : Int)) := g1
  have yg2 : W.drew.cell? ⟨w.heap.size + 1, 2, none⟩ = some (.int .i64 (B : Int)) := g2
  refine wp_region_x (fun w' => w'.cell? ⟨w.heap.size, 0, none⟩ = some (.int .i64 (n : Int)) ∧ w'.cell? ⟨w.heap.size, 1, none⟩ = some (.int .i64 (c : Int)) ∧ w'.cell? ⟨w.heap.size, 2, none⟩ = some (.int .i64 p) ∧ w'.cell? ⟨w.heap.size + 1, 0, none⟩ = some (.int .i64 kd) ∧ w'.cell? ⟨w.heap.size + 1, 1, none⟩ = some (.int .i64 (A : Int)) ∧ w'.cell? ⟨w.heap.size + 1, 2, none⟩ = some (.int .i64 (B : Int))) 6 (by kernel_rfl) ⟨yc0, yc1, yc2, yg0, yg1, yg2⟩ (fun hS0 => ?_)
  refine wpAnyX_take (i := 0) (oi := _) (v := ?_) rfl (by kernel_rfl) (by kernel_rfl) (by kernel_rfl) (by kernel_rfl) (fun _ _ _ h => h) (Or.inl ⟨by rfl, ?_⟩) hS0 ?_
  rotate_left 1
  · (intro w hSw; (try dsimp only at hSw); go_simp; (try with_reducible rfl))
  try simp only [Act.put, List.setIfInBounds_toArray, List.set_cons_zero, List.set_cons_succ]
  refine wpAnyX_take (i := 1) (oi := _) (v := ?_) rfl (by kernel_rfl) (by kernel_rfl) (by kernel_rfl) (by kernel_rfl) (fun _ _ _ h => h) (Or.inl ⟨by rfl, ?_⟩) hS0 ?_
  rotate_left 1
  · (intro w hSw; (try dsimp only at hSw); go_simp; (try with_reducible rfl))
  try simp only [Act.put, List.setIfInBounds_toArray, List.set_cons_zero, List.set_cons_succ]
  refine wpAnyX_take (i := 3) (oi := _) (v := ?_) rfl (by kernel_rfl) (by kernel_rfl) (by kernel_rfl) (by kernel_rfl) (fun _ _ _ h => h) (Or.inl ⟨by rfl, ?_⟩) hS0 ?_
  rotate_left 1
  · (intro w hSw; (try dsimp only at hSw); go_simp; (try with_reducible rfl))
  try simp only [Act.put, List.setIfInBounds_toArray, List.set_cons_zero, List.set_cons_succ]
  refine wpAnyX_one (i := 2) (o := _) rfl (by kernel_rfl) (fun K hK => ?_)
  go_simp
  refine (kapplyZ h5 hA hc p1 p2).mono ?_
  rintro ee v0 ⟨rfl, hbv00⟩
  have hbv0 := undrewK hbv00
  have hzv0 := hbv0.size
  refine hK.out _ _ (fun _ => ?_) (fun hS1 => ?_)
  · exact ⟨kc hbv00 (hS0.1), kc hbv00 (hS0.2.1), kc hbv00 (hS0.2.2.1), kc hbv00 (hS0.2.2.2.1), kc hbv00 (hS0.2.2.2.2.1), kc hbv00 (hS0.2.2.2.2.2)⟩
  clear hK K
  have hS1 := hS1 (by decide)
  try simp only [Act.put, List.setIfInBounds_toArray, List.set_cons_zero, List.set_cons_succ]
  refine wpAnyX_one (i := 4) (o := _) rfl (by kernel_rfl) (fun K hK => ?_)
  go_simp
  refine (kapplyX2 h5 hA hc (by omega) (by omega)).mono ?_
  rintro ee v1 ⟨rfl, hbv1⟩
  have hzv1 := hbv1.size
  refine hK.out _ _ (fun _ => ?_) (fun hS2 => ?_)
  · exact ⟨kc hbv1 (hS1.1), kc hbv1 (hS1.2.1), kc hbv1 (hS1.2.2.1), kc hbv1 (hS1.2.2.2.1), kc hbv1 (hS1.2.2.2.2.1), kc hbv1 (hS1.2.2.2.2.2)⟩
  clear hK K
  have hS2 := hS2 (by decide)
  try simp only [Act.put, List.setIfInBounds_toArray, List.set_cons_zero, List.set_cons_succ]
  refine wpAnyX_one (i := 5) (o := _) rfl (by kernel_rfl) (fun K hK => ?_)
  go_simp
  refine (kturn (by omega) (by omega) (by omega) (by omega)).mono ?_
  rintro ee v2 ⟨rfl, hbv2⟩
  have hzv2 := hbv2.size
  refine hK.out _ _ (fun _ => ?_) (fun hS3 => ?_)
  · exact ⟨kc hbv2 (hS2.1), kc hbv2 (hS2.2.1), kc hbv2 (hS2.2.2.1), kc hbv2 (hS2.2.2.2.1), kc hbv2 (hS2.2.2.2.2.1), kc hbv2 (hS2.2.2.2.2.2)⟩
  clear hK K
  have hS3 := hS3 (by decide)
  try simp only [Act.put, List.setIfInBounds_toArray, List.set_cons_zero, List.set_cons_succ]
  refine wpAnyX_one (i := 6) (o := _) rfl (by kernel_rfl) (fun K hK => ?_)
  have dX := (((cX.mono hbv0).mono hbv1).mono hbv2)
  have d0 := dX.c 0 rfl
  have d1 := dX.c 1 rfl
  have d2 := dX.c 2 rfl
  have df := dX.f
  have dl := dX.lt
  have hX := (((gX.mono hbv0).mono hbv1).mono hbv2)
  have h0 := hX.c 0 rfl
  have h1 := hX.c 1 rfl
  have h2 := hX.c 2 rfl
  have hf := hX.f
  have hl := hX.lt
  have eX := (((zX.mono hbv0).mono hbv1).mono hbv2)
  have e0 := eX.c 0 rfl
  have e1 := eX.c 1 rfl
  have e2 := eX.c 2 rfl
  have ef := eX.f
  have el := eX.lt
  have ne1 : w.heap.size ≠ w.heap.size + 1 + 1 := by omega
  have ne2 : w.heap.size + 1 ≠ w.heap.size + 1 + 1 := by omega
  have ne3 : w.heap.size + 1 + 1 ≠ w.heap.size := by omega
  have ne4 : w.heap.size + 1 + 1 ≠ w.heap.size + 1 := by omega
  go_simp
  refine hK.out _ _ (fun h => absurd rfl h) (fun _ => ?_)
  clear hK K
  try simp only [Act.put, List.setIfInBounds_toArray, List.set_cons_zero, List.set_cons_succ]
  refine wpAnyX_done (by kernel_rfl) ?_ _
  go_wp2_with (fail)
  refine bodyPost_ret (v := .agg #[.int .i64 (n : Int), .int .i64 ((c ^^^ msk n A : Nat) : Int), .int .i64 (p + 4 * ((bitI n c A : Nat) : Int) + 2)]) (by first | (simp [results, Try.results143, go_sem, *]; done) | (simp (disch := (first | omega | (simp; done) | (simp; omega))) [results, Try.results143, go_sem, *]; done) | (simp only [results, Try.results143]; go_simp; done)) rfl ⟨rfl, ?_⟩
  have chbv0 := chain hbW hbv0 hbW.size
  have chbv1 := chain chbv0 hbv1 chbv0.size
  have chbv2 := chain chbv1 hbv2 chbv1.size
  (repeat' (first | (with_reducible exact Below.refl _ _) | (with_reducible assumption) | (with_reducible refine Below.alloc ?_ ?_ _) | (with_reducible refine Below.drew ?_) | (with_reducible refine below_drewN ?_ _) | (with_reducible refine Below.setCell ?_ ?_ _) | (with_reducible refine chain ?_ (by assumption) ?_) | omega | (simp; done) | (simp; omega)))

end Go.Proofs.Ytncgccpkbneagaa
namespace Go.Proofs.Ytncgccpkbneagaa
open Go.RowKit RM
set_option linter.unusedVariables false
set_option linter.unusedSimpArgs false
attribute [local irreducible] World.setCell

open GM
set_option maxRecDepth 100000 in
set_option maxHeartbeats 2000000 in
theorem kapplyCX_0 {n c A B : Nat} {p kd : Int} {w : World} (h5 : n ≤ 5) (hA : A < n) (hB : B < n) (h : bitI n c A = 0) (hc : c < 2 ^ n) (p1 : -100 ≤ p) (p2 : p ≤ 100) :
    Calls Try.prog 148 #[.agg #[.int .i64 (n : Int), .int .i64 (c : Int), .int .i64 p], .agg #[.int .i64 kd, .int .i64 (A : Int), .int .i64 (B : Int)]] w fun ee w' => ee = .returned (.agg #[.int .i64 (n : Int), .int .i64 (c : Int), .int .i64 p]) ∧ Below w.heap.size w w' := by
  have hc9 : c < 32 := Nat.lt_of_lt_of_le hc (pow_le h5)
  have hk := h
  clear h
  go_enter Try.func148, Try.ntmps148
  go_wp2_with (fail)
  refine (kbit_0 h5 hA hc9 (bitI_iff.1 hk)).mono ?_
  rintro ee w1 ⟨rfl, hb1⟩
  obtain ⟨hc1, hf1, _⟩ := bcell hb1; have hz1 := hb1.size; (try simp at hz1); (try have hx10 : w.heap.size < w1.heap.size := (by omega)); (try have hx11 : w.heap.size + 1 < w1.heap.size := (by omega)); (try have hx12 : w.heap.size + 1 + 1 < w1.heap.size := (by omega)); (try have hx13 : w.heap.size + 1 + 1 + 1 < w1.heap.size := (by omega)); (try have hx14 : w.heap.size + 1 + 1 + 1 + 1 < w1.heap.size := (by omega))
  clear hk
  go_wp2_with (fail)
  refine bodyPost_ret (v := .agg #[.int .i64 (n : Int), .int .i64 (c : Int), .int .i64 p]) (by first | (simp [results, Try.results148, go_sem, *]; done) | (simp (disch := (first | omega | (simp; done) | (simp; omega))) [results, Try.results148, go_sem, *]; done) | (simp only [results, Try.results148]; go_simp; done)) rfl ⟨rfl, ?_⟩
  (repeat' (first | (with_reducible exact Below.refl _ _) | (with_reducible assumption) | (with_reducible refine Below.alloc ?_ ?_ _) | (with_reducible refine Below.drew ?_) | (with_reducible refine below_drewN ?_ _) | (with_reducible refine Below.setCell ?_ ?_ _) | (with_reducible refine chain ?_ (by assumption) ?_) | omega | (simp; done) | (simp; omega)))

set_option maxRecDepth 100000 in
set_option maxHeartbeats 2000000 in
theorem kapplyCX_1 {n c A B : Nat} {p kd : Int} {w : World} (h5 : n ≤ 5) (hA : A < n) (hB : B < n) (h : bitI n c A = 1) (hc : c < 2 ^ n) (p1 : -100 ≤ p) (p2 : p ≤ 100) :
    Calls Try.prog 148 #[.agg #[.int .i64 (n : Int), .int .i64 (c : Int), .int .i64 p], .agg #[.int .i64 kd, .int .i64 (A : Int), .int .i64 (B : Int)]] w fun ee w' => ee = .returned (.agg #[.int .i64 (n : Int), .int .i64 ((c ^^^ msk n B : Nat) : Int), .int .i64 p]) ∧ Below w.heap.size w w' := by
  have hc9 : c < 32 := Nat.lt_of_lt_of_le hc (pow_le h5)
  have hk : ¬ (c &&& msk n A = 0) := fun h2 => by rw [bitI_iff.2 h2] at h; cases h
  have HK := hid hk
  clear h hk
  go_enter Try.func148, Try.ntmps148
  go_wp2_with (fail)
  refine (kbit_1 h5 hA hc9 HK.out).mono ?_
  rintro ee w1 ⟨rfl, hb1⟩
  obtain ⟨hc1, hf1, _⟩ := bcell hb1; have hz1 := hb1.size; (try simp at hz1); (try have hx10 : w.heap.size < w1.heap.size := (by omega)); (try have hx11 : w.heap.size + 1 < w1.heap.size := (by omega)); (try have hx12 : w.heap.size + 1 + 1 < w1.heap.size := (by omega)); (try have hx13 : w.heap.size + 1 + 1 + 1 < w1.heap.size := (by omega)); (try have hx14 : w.heap.size + 1 + 1 + 1 + 1 < w1.heap.size := (by omega))
  go_wp2_with (fail)
  refine (kflip h5 hB hc9).mono ?_
  rintro ee w2 ⟨rfl, hb2⟩
  obtain ⟨hc2, hf2, _⟩ := bcell hb2; have hz2 := hb2.size; (try simp at hz2); (try have hx20 : w.heap.size < w2.heap.size := (by omega)); (try have hx21 : w.heap.size + 1 < w2.heap.size := (by omega)); (try have hx22 : w.heap.size + 1 + 1 < w2.heap.size := (by omega)); (try have hx23 : w.heap.size + 1 + 1 + 1 < w2.heap.size := (by omega)); (try have hx24 : w.heap.size + 1 + 1 + 1 + 1 < w2.heap.size := (by omega))
  go_wp2_with (fail)
  refine bodyPost_ret (v := .agg #[.int .i64 (n : Int), .int .i64 ((c ^^^ msk n B : Nat) : Int), .int .i64 p]) (by first | (simp [results, Try.results148, go_sem, *]; done) | (simp (disch := (first | omega | (simp; done) | (simp; omega))) [results, Try.results148, go_sem, *]; done) | (simp only [results, Try.results148]; go_simp; done)) rfl ⟨rfl, ?_⟩
  (repeat' (first | (with_reducible exact Below.refl _ _) | (with_reducible assumption) | (with_reducible refine Below.alloc ?_ ?_ _) | (with_reducible refine Below.drew ?_) | (with_reducible refine below_drewN ?_ _) | (with_reducible refine Below.setCell ?_ ?_ _) | (with_reducible refine chain ?_ (by assumption) ?_) | omega | (simp; done) | (simp; omega)))

set_option maxRecDepth 100000 in
set_option maxHeartbeats 2000000 in
theorem kapplyCZ {n c A B : Nat} {p kd : Int} {w : World} (h5 : n ≤ 5) (hA : A < n) (hB : B < n) (hc : c < 2 ^ n) (p1 : -100 ≤ p) (p2 : p ≤ 100) :
    Calls Try.prog 149 #[.agg #[.int .i64 (n : Int), .int .i64 (c : Int), .int .i64 p], .agg #[.int .i64 kd, .int .i64 (A : Int), .int .i64 (B : Int)]] w fun ee w' => ee = .returned (.agg #[.int .i64 (n : Int), .int .i64 (c : Int), .int .i64 (p + ((4 * bitI n c A * bitI n c B : Nat) : Int))]) ∧ Below w.heap.size w w' := by
  have hc9 : c < 32 := Nat.lt_of_lt_of_le hc (pow_le h5)
  have b1 : bitI n c A ≤ 1 := by rcases bitI_01 (n := n) (c := c) (q := A) with h | h <;> omega
  have b2 : ((bitI n c A : Nat) : Int) ≤ 1 := by omega
  have b3 : 0 ≤ ((bitI n c A : Nat) : Int) := by omega
  have d1 : bitI n c B ≤ 1 := by rcases bitI_01 (n := n) (c := c) (q := B) with h | h <;> omega
  have d2 : ((bitI n c B : Nat) : Int) ≤ 1 := by omega
  have d3 : 0 ≤ ((bitI n c B : Nat) : Int) := by omega
  have wq : IntKind.i64.wrap (4 * ((bitI n c A : Nat) : Int)) = 4 * ((bitI n c A : Nat) : Int) := IntWalk.i64_in _ (by omega)
  obtain ⟨t, ht⟩ : ∃ t : Nat, t = 4 * bitI n c A * bitI n c B := ⟨_, rfl⟩
  have t1 : 4 * ((bitI n c A : Nat) : Int) * ((bitI n c B : Nat) : Int) = (t : Int) := by rw [ht]; simp
  have t2 : t ≤ 4 := by
    rw [ht]
    rcases bitI_01 (n := n) (c := c) (q := A) with h | h <;> rcases bitI_01 (n := n) (c := c) (q := B) with h' | h' <;> rw [h, h'] <;> decide
  have t3 : IntKind.i64.wrap (t : Int) = (t : Int) := IntWalk.i64_in _ (by omega)
  have HT := hid ht
  clear ht
  rw [← HT.out]
  go_enter Try.func149, Try.ntmps149
  go_upto_region 1 with (fail)
  obtain ⟨W, hW⟩ : ∃ W : World, W = ((w.alloc (.cells #[.int .i64 (n : Int), .int .i64 (c : Int), .int .i64 p] 119)).alloc (.cells #[.int .i64 kd, .int .i64 (A : Int), .int .i64 (B : Int)] 59)).alloc (.cells #[.int .i64 0, .int .i64 0, .int .i64 0] 119) := ⟨_, rfl⟩
  have hbW : Below w.heap.size w W := by rw [hW]; exact (((Below.refl _ _).alloc (Nat.le_refl _) _).alloc (by simp) _).alloc (by simp; omega) _
  have cX : Bx W w.heap.size 119 #[.int .i64 (n : Int), .int .i64 (c : Int), .int .i64 p] := by rw [hW]; exact ((Bx.new rfl).alloc _).alloc _
  have gX : Bx W (w.heap.size + 1) 59 #[.int .i64 kd, .int .i64 (A : Int), .int .i64 (B : Int)] := by rw [hW]; exact (Bx.new (by simp)).alloc _
  have zX : Bx W (w.heap.size + 1 + 1) 119 #[.int .i64 0, .int .i64 0, .int .i64 0] := by rw [hW]; exact Bx.new (by simp)
  have hzW : w.heap.size + 1 + 1 < W.heap.size := by rw [hW]; simp
  rw [← hW]
  clear hW
  have c0 := cX.c 0 rfl
  have c1 := cX.c 1 rfl
  have c2 := cX.c 2 rfl
  have cl := cX.lt
  have g0 := gX.c 0 rfl
  have g1 := gX.c 1 rfl
  have g2 := gX.c 2 rfl
  have gl := gX.lt
  have yc0 : W.drew.cell? ⟨w.heap.size, 0, none⟩ = some (.int .i64 (n : Int)) := c0
  have yc1 : W.drew.cell? ⟨w.heap.size, 1, none⟩ = some (.int .i64 (c : Int)) := c1
  have yc2 : W.drew.cell? ⟨w.heap.size, 2, none⟩ = some (.int .i64 p) := c2
  have yg0 : W.drew.cell? ⟨w.heap.size + 1, 0, none⟩ = some (.int .i64 kd) := g0
  have yg1 : W.drew.cell? ⟨w.heap.size + 1, 1, none⟩ = some (.int .i64 (A : Int)) := g1
  have yg2 : W.drew.cell? ⟨w.heap.size + 1, 2, none⟩ = some (.int .i64 (B : Int)) := g2
  refine wp_region_x (fun w' => w'.cell? ⟨w.heap.size, 0, none⟩ = some (.int .i64 (n : Int)) ∧ w'.cell? ⟨w.heap.size, 1, none⟩ = some (.int .i64 (c : Int)) ∧ w'.cell? ⟨w.heap.size, 2, none⟩ = some (.int .i64 p) ∧ w'.cell? ⟨w.heap.size + 1, 0, none⟩ = some (.int .i64 kd) ∧ w'.cell? ⟨w.heap.size + 1, 1, none⟩ = some (.int .i64 (A : Int)) ∧ w'.cell? ⟨w.heap.size + 1, 2, none⟩ = some (.int .i64 (B : Int))) 12 (by kernel_rfl) ⟨yc0, yc1, yc2, yg0, yg1, yg2⟩ (fun hS0 => ?_)
  refine wpAnyX_take (i := 0) (oi := _) (v := ?_) rfl (by kernel_rfl) (by kernel_rfl) (by kernel_rfl) (by kernel_rfl) (fun _ _ _ h => h) (Or.inl ⟨by rfl, ?_⟩) hS0 ?_
  rotate_left 1
  · (intro w hSw; (try dsimp only at hSw); go_simp; (try with_reducible rfl))
  try simp only [Act.put, List.setIfInBounds_toArray, List.set_cons_zero, List.set_cons_succ]
  refine wpAnyX_take (i := 1) (oi := _) (v := ?_) rfl (by kernel_rfl) (by kernel_rfl) (by kernel_rfl) (by kernel_rfl) (fun _ _ _ h => h) (Or.inl ⟨by rfl, ?_⟩) hS0 ?_
  rotate_left 1
  · (intro w hSw; (try dsimp only at hSw); go_simp; (try with_reducible rfl))
  try simp only [Act.put, List.setIfInBounds_toArray, List.set_cons_zero, List.set_cons_succ]
  refine wpAnyX_take (i := 2) (oi := _) (v := ?_) rfl (by kernel_rfl) (by kernel_rfl) (by kernel_rfl) (by kernel_rfl) (fun _ _ _ h => h) (Or.inl ⟨by rfl, ?_⟩) hS0 ?_
  rotate_left 1
  · (intro w hSw; (try dsimp only at hSw); go_simp; (try with_reducible rfl))
  try simp only [Act.put, List.setIfInBounds_toArray, List.set_cons_zero, List.set_cons_succ]
  refine wpAnyX_take (i := 3) (oi := _) (v := ?_) rfl (by kernel_rfl) (by kernel_rfl) (by kernel_rfl) (by kernel_rfl) (fun _ _ _ h => h) (Or.inl ⟨by rfl, ?_⟩) hS0 ?_
  rotate_left 1
  · (intro w hSw; (try dsimp only at hSw); go_simp; (try with_reducible rfl))
  try simp only [Act.put, List.setIfInBounds_toArray, List.set_cons_zero, List.set_cons_succ]
  refine wpAnyX_take (i := 6) (oi := _) (v := ?_) rfl (by kernel_rfl) (by kernel_rfl) (by kernel_rfl) (by kernel_rfl) (fun _ _ _ h => h) (Or.inl ⟨by rfl, ?_⟩) hS0 ?_
  rotate_left 1
  · (intro w hSw; (try dsimp only at hSw); go_simp; (try with_reducible rfl))
  try simp only [Act.put, List.setIfInBounds_toArray, List.set_cons_zero, List.set_cons_succ]
  refine wpAnyX_take (i := 7) (oi := _) (v := ?_) rfl (by kernel_rfl) (by kernel_rfl) (by kernel_rfl) (by kernel_rfl) (fun _ _ _ h => h) (Or.inl ⟨by rfl, ?_⟩) hS0 ?_
  rotate_left 1
  · (intro w hSw; (try dsimp only at hSw); go_simp; (try with_reducible rfl))
  try simp only [Act.put, List.setIfInBounds_toArray, List.set_cons_zero, List.set_cons_succ]
  refine wpAnyX_take (i := 8) (oi := _) (v := ?_) rfl (by kernel_rfl) (by kernel_rfl) (by kernel_rfl) (by kernel_rfl) (fun _ _ _ h => h) (Or.inl ⟨by rfl, ?_⟩) hS0 ?_
  rotate_left 1
  · (intro w hSw; (try dsimp only at hSw); go_simp; (try with_reducible rfl))
  try simp only [Act.put, List.setIfInBounds_toArray, List.set_cons_zero, List.set_cons_succ]
  refine wpAnyX_one (i := 4) (o := _) rfl (by kernel_rfl) (fun K hK => ?_)
  go_simp
  refine (kbit h5 hA hc9).mono ?_
  rintro ee v0 ⟨rfl, hbv00⟩
  have hbv0 := undrewK hbv00
  have hzv0 := hbv0.size
  refine hK.out _ _ (fun _ => ?_) (fun hS1 => ?_)
  · exact ⟨kc hbv00 (hS0.1), kc hbv00 (hS0.2.1), kc hbv00 (hS0.2.2.1), kc hbv00 (hS0.2.2.2.1), kc hbv00 (hS0.2.2.2.2.1), kc hbv00 (hS0.2.2.2.2.2)⟩
  clear hK K
  have hS1 := hS1 (by decide)
  try simp only [Act.put, List.setIfInBounds_toArray, List.set_cons_zero, List.set_cons_succ]
  refine wpAnyX_take (i := 5) (oi := _) (v := ?_) rfl (by kernel_rfl) (by kernel_rfl) (by kernel_rfl) (by kernel_rfl) (fun _ _ _ h => h) (Or.inl ⟨by rfl, ?_⟩) hS1 ?_
  rotate_left 1
  · (intro w hSw; (try dsimp only at hSw); go_simp; (try with_reducible rfl))
  try simp only [Act.put, List.setIfInBounds_toArray, List.set_cons_zero, List.set_cons_succ]
  refine wpAnyX_one (i := 9) (o := _) rfl (by kernel_rfl) (fun K hK => ?_)
  go_simp
  refine (kbit h5 hB hc9).mono ?_
  rintro ee v1 ⟨rfl, hbv1⟩
  have hzv1 := hbv1.size
  refine hK.out _ _ (fun _ => ?_) (fun hS2 => ?_)
  · exact ⟨kc hbv1 (hS1.1), kc hbv1 (hS1.2.1), kc hbv1 (hS1.2.2.1), kc hbv1 (hS1.2.2.2.1), kc hbv1 (hS1.2.2.2.2.1), kc hbv1 (hS1.2.2.2.2.2)⟩
  clear hK K
  have hS2 := hS2 (by decide)
  try simp only [Act.put, List.setIfInBounds_toArray, List.set_cons_zero, List.set_cons_succ]
  refine wpAnyX_take (i := 10) (oi := _) (v := ?_) rfl (by kernel_rfl) (by kernel_rfl) (by kernel_rfl) (by kernel_rfl) (fun _ _ _ h => h) (Or.inl ⟨by rfl, ?_⟩) hS2 ?_
  rotate_left 1
  · (intro w hSw; (try dsimp only at hSw); go_simp; (try with_reducible rfl))
  try simp only [Act.put, List.setIfInBounds_toArray, List.set_cons_zero, List.set_cons_succ]
  refine wpAnyX_one (i := 11) (o := _) rfl (by kernel_rfl) (fun K hK => ?_)
  go_simp
  refine (kturn (by omega) (by omega) (by omega) (by omega)).mono ?_
  rintro ee v2 ⟨rfl, hbv2⟩
  have hzv2 := hbv2.size
  refine hK.out _ _ (fun _ => ?_) (fun hS3 => ?_)
  · exact ⟨kc hbv2 (hS2.1), kc hbv2 (hS2.2.1), kc hbv2 (hS2.2.2.1), kc hbv2 (hS2.2.2.2.1), kc hbv2 (hS2.2.2.2.2.1), kc hbv2 (hS2.2.2.2.2.2)⟩
  clear hK K
  have hS3 := hS3 (by decide)
  try simp only [Act.put, List.setIfInBounds_toArray, List.set_cons_zero, List.set_cons_succ]
  refine wpAnyX_one (i := 12) (o := _) rfl (by kernel_rfl) (fun K hK => ?_)
  have dX := (((cX.mono hbv0).mono hbv1).mono hbv2)
  have d0 := dX.c 0 rfl
  have d1 := dX.c 1 rfl
  have d2 := dX.c 2 rfl
  have df := dX.f
  have dl := dX.lt
  have hX := (((gX.mono hbv0).mono hbv1).mono hbv2)
  have h0 := hX.c 0 rfl
  have h1 := hX.c 1 rfl
  have h2 := hX.c 2 rfl
  have hf := hX.f
  have hl := hX.lt
  have eX := (((zX.mono hbv0).mono hbv1).mono hbv2)
  have e0 := eX.c 0 rfl
  have e1 := eX.c 1 rfl
  have e2 := eX.c 2 rfl
  have ef := eX.f
  have el := eX.lt
  have ne1 : w.heap.size ≠ w.heap.size + 1 + 1 := by omega
  have ne2 : w.heap.size + 1 ≠ w.heap.size + 1 + 1 := by omega
  have ne3 : w.heap.size + 1 + 1 ≠ w.heap.size := by omega
  have ne4 : w.heap.size + 1 + 1 ≠ w.heap.size + 1 := by omega
  go_simp
  refine hK.out _ _ (fun h => absurd rfl h) (fun _ => ?_)
  clear hK K
  try simp only [Act.put, List.setIfInBounds_toArray, List.set_cons_zero, List.set_cons_succ]
  refine wpAnyX_done (by kernel_rfl) ?_ _
  go_wp2_with (fail)
  refine bodyPost_ret (v := .agg #[.int .i64 (n : Int), .int .i64 (c : Int), .int .i64 (p + (t : Int))]) (by first | (simp [results, Try.results149, go_sem, *]; done) | (simp (disch := (first | omega | (simp; done) | (simp; omega))) [results, Try.results149, go_sem, *]; done) | (simp only [results, Try.results149]; go_simp; done)) rfl ⟨rfl, ?_⟩
  have chbv0 := chain hbW hbv0 hbW.size
  have chbv1 := chain chbv0 hbv1 chbv0.size
  have chbv2 := chain chbv1 hbv2 chbv1.size
  (repeat' (first | (with_reducible exact Below.refl _ _) | (with_reducible assumption) | (with_reducible refine Below.alloc ?_ ?_ _) | (with_reducible refine Below.drew ?_) | (with_reducible refine below_drewN ?_ _) | (with_reducible refine Below.setCell ?_ ?_ _) | (with_reducible refine chain ?_ (by assumption) ?_) | omega | (simp; done) | (simp; omega)))

set_option maxRecDepth 100000 in
set_option maxHeartbeats 2000000 in
theorem kapplySwap_e {n c A B : Nat} {p kd : Int} {w : World} (h5 : n ≤ 5) (hA : A < n) (hB : B < n) (h : bitI n c A = bitI n c B) (hc : c < 2 ^ n) (p1 : -100 ≤ p) (p2 : p ≤ 100) :
    Calls Try.prog 150 #[.agg #[.int .i64 (n : Int), .int .i64 (c : Int), .int .i64 p], .agg #[.int .i64 kd, .int .i64 (A : Int), .int .i64 (B : Int)]] w fun ee w' => ee = .returned (.agg #[.int .i64 (n : Int), .int .i64 (c : Int), .int .i64 p]) ∧ Below w.heap.size w w' := by
  have hc9 : c < 32 := Nat.lt_of_lt_of_le hc (pow_le h5)
  have hk : bitI n c A = bitI n c B := h
  clear h
  go_enter Try.func150, Try.ntmps150
  go_upto_region 1 with (fail)
  obtain ⟨W, hW⟩ : ∃ W : World, W = ((w.alloc (.cells #[.int .i64 (n : Int), .int .i64 (c : Int), .int .i64 p] 119)).alloc (.cells #[.int .i64 kd, .int .i64 (A : Int), .int .i64 (B : Int)] 59)).alloc (.cells #[.int .i64 0, .int .i64 0, .int .i64 0] 119) := ⟨_, rfl⟩
  have hbW : Below w.heap.size w W := by rw [hW]; exact (((Below.refl _ _).alloc (Nat.le_refl _) _).alloc (by simp) _).alloc (by simp; omega) _
  have cX : Bx W w.heap.size 119 #[.int .i64 (n : Int), .int .i64 (c : Int), .int .i64 p] := by rw [hW]; exact ((Bx.new rfl).alloc _).alloc _
  have gX : Bx W (w.heap.size + 1) 59 #[.int .i64 kd, .int .i64 (A : Int), .int .i64 (B : Int)] := by rw [hW]; exact (Bx.new (by simp)).alloc _
  have zX : Bx W (w.heap.size + 1 + 1) 119 #[.int .i64 0, .int .i64 0, .int .i64 0] := by rw [hW]; exact Bx.new (by simp)
  have hzW : w.heap.size + 1 + 1 < W.heap.size := by rw [hW]; simp
  rw [← hW]
  clear hW
  have c0 := cX.c 0 rfl
  have c1 := cX.c 1 rfl
  have c2 := cX.c 2 rfl
  have cl := cX.lt
  have g0 := gX.c 0 rfl
  have g1 := gX.c 1 rfl
  have g2 := gX.c 2 rfl
  have gl := gX.lt
  have yc0 : W.drew.cell? ⟨w.heap.size, 0, none⟩ = some (.int .i64 (n : Int)) := c0
  have yc1 : W.drew.cell? ⟨w.heap.size, 1, none⟩ = some (.int .i64 (c : Int)) := c1
  have yc2 : W.drew.cell? ⟨w.heap.size, 2, none⟩ = some (.int .i64 p) := c2
  have yg0 : W.drew.cell? ⟨w.heap.size + 1, 0, none⟩ = some (.int .i64 kd) := g0
  have yg1 : W.drew.cell? ⟨w.heap.size + 1, 1, none⟩ = some (.int .i64 (A : Int)) := g1
  have yg2 : W.drew.cell? ⟨w.heap.size + 1, 2, none⟩ = some (.int .i64 (B : Int)) := g2
  refine wp_region_x (fun w' => w'.cell? ⟨w.heap.size, 0, none⟩ = some (.int .i64 (n : Int)) ∧ w'.cell? ⟨w.heap.size, 1, none⟩ = some (.int .i64 (c : Int)) ∧ w'.cell? ⟨w.heap.size, 2, none⟩ = some (.int .i64 p) ∧ w'.cell? ⟨w.heap.size + 1, 0, none⟩ = some (.int .i64 kd) ∧ w'.cell? ⟨w.heap.size + 1, 1, none⟩ = some (.int .i64 (A : Int)) ∧ w'.cell? ⟨w.heap.size + 1, 2, none⟩ = some (.int .i64 (B : Int))) 1000 (by kernel_rfl) ⟨yc0, yc1, yc2, yg0, yg1, yg2⟩ (fun hS0 => ?_)
  refine wpAnyX_take (i := 0) (oi := _) (v := ?_) rfl (by kernel_rfl) (by kernel_rfl) (by kernel_rfl) (by kernel_rfl) (fun _ _ _ h => h) (Or.inl ⟨by rfl, ?_⟩) hS0 ?_
  rotate_left 1
  · (intro w hSw; (try dsimp only at hSw); go_simp; (try with_reducible rfl))
  try simp only [Act.put, List.setIfInBounds_toArray, List.set_cons_zero, List.set_cons_succ]
  refine wpAnyX_take (i := 1) (oi := _) (v := ?_) rfl (by kernel_rfl) (by kernel_rfl) (by kernel_rfl) (by kernel_rfl) (fun _ _ _ h => h) (Or.inl ⟨by rfl, ?_⟩) hS0 ?_
  rotate_left 1
  · (intro w hSw; (try dsimp only at hSw); go_simp; (try with_reducible rfl))
  try simp only [Act.put, List.setIfInBounds_toArray, List.set_cons_zero, List.set_cons_succ]
  refine wpAnyX_take (i := 2) (oi := _) (v := ?_) rfl (by kernel_rfl) (by kernel_rfl) (by kernel_rfl) (by kernel_rfl) (fun _ _ _ h => h) (Or.inl ⟨by rfl, ?_⟩) hS0 ?_
  rotate_left 1
  · (intro w hSw; (try dsimp only at hSw); go_simp; (try with_reducible rfl))
  try simp only [Act.put, List.setIfInBounds_toArray, List.set_cons_zero, List.set_cons_succ]
  refine wpAnyX_take (i := 4) (oi := _) (v := ?_) rfl (by kernel_rfl) (by kernel_rfl) (by kernel_rfl) (by kernel_rfl) (fun _ _ _ h => h) (Or.inl ⟨by rfl, ?_⟩) hS0 ?_
  rotate_left 1
  · (intro w hSw; (try dsimp only at hSw); go_simp; (try with_reducible rfl))
  try simp only [Act.put, List.setIfInBounds_toArray, List.set_cons_zero, List.set_cons_succ]
  refine wpAnyX_take (i := 5) (oi := _) (v := ?_) rfl (by kernel_rfl) (by kernel_rfl) (by kernel_rfl) (by kernel_rfl) (fun _ _ _ h => h) (Or.inl ⟨by rfl, ?_⟩) hS0 ?_
  rotate_left 1
  · (intro w hSw; (try dsimp only at hSw); go_simp; (try with_reducible rfl))
  try simp only [Act.put, List.setIfInBounds_toArray, List.set_cons_zero, List.set_cons_succ]
  refine wpAnyX_take (i := 6) (oi := _) (v := ?_) rfl (by kernel_rfl) (by kernel_rfl) (by kernel_rfl) (by kernel_rfl) (fun _ _ _ h => h) (Or.inl ⟨by rfl, ?_⟩) hS0 ?_
  rotate_left 1
  · (intro w hSw; (try dsimp only at hSw); go_simp; (try with_reducible rfl))
  try simp only [Act.put, List.setIfInBounds_toArray, List.set_cons_zero, List.set_cons_succ]
  refine wpAnyX_one (i := 3) (o := _) rfl (by kernel_rfl) (fun K hK => ?_)
  go_simp
  refine (kbit h5 hA hc9).mono ?_
  rintro ee v0 ⟨rfl, hbv00⟩
  have hbv0 := undrewK hbv00
  have hzv0 := hbv0.size
  refine hK.out _ _ (fun _ => ?_) (fun hS1 => ?_)
  · exact ⟨kc hbv00 (hS0.1), kc hbv00 (hS0.2.1), kc hbv00 (hS0.2.2.1), kc hbv00 (hS0.2.2.2.1), kc hbv00 (hS0.2.2.2.2.1), kc hbv00 (hS0.2.2.2.2.2)⟩
  clear hK K
  have hS1 := hS1 (by decide)
  try simp only [Act.put, List.setIfInBounds_toArray, List.set_cons_zero, List.set_cons_succ]
  refine wpAnyX_one (i := 7) (o := _) rfl (by kernel_rfl) (fun K hK => ?_)
  go_simp
  refine (kbit h5 hB hc9).mono ?_
  rintro ee v1 ⟨rfl, hbv1⟩
  have hzv1 := hbv1.size
  refine hK.out _ _ (fun _ => ?_) (fun hS2 => ?_)
  · exact ⟨kc hbv1 (hS1.1), kc hbv1 (hS1.2.1), kc hbv1 (hS1.2.2.1), kc hbv1 (hS1.2.2.2.1), kc hbv1 (hS1.2.2.2.2.1), kc hbv1 (hS1.2.2.2.2.2)⟩
  clear hK K
  have hS2 := hS2 (by decide)
  try simp only [Act.put, List.setIfInBounds_toArray, List.set_cons_zero, List.set_cons_succ]
  refine wpAnyX_take (i := 8) (oi := _) (v := ?_) rfl (by kernel_rfl) (by kernel_rfl) (by kernel_rfl) (by kernel_rfl) (fun _ _ _ h => h) (Or.inl ⟨by rfl, ?_⟩) hS2 ?_
  rotate_left 1
  · (intro w hSw; (try dsimp only at hSw); go_simp; (try with_reducible rfl))
  change wpAnyX _ _ _ _ _ _ _ _ (Act.put _ (some 13) _) _
  try simp only [Act.put, List.setIfInBounds_toArray, List.set_cons_zero, List.set_cons_succ]
  refine wpAnyX_done (by kernel_rfl) ?_ _
  have dX := ((cX.mono hbv0).mono hbv1)
  have d0 := dX.c 0 rfl
  have d1 := dX.c 1 rfl
  have d2 := dX.c 2 rfl
  have df := dX.f
  have dl := dX.lt
  have hX := ((gX.mono hbv0).mono hbv1)
  have h0 := hX.c 0 rfl
  have h1 := hX.c 1 rfl
  have h2 := hX.c 2 rfl
  have hf := hX.f
  have hl := hX.lt
  have eX := ((zX.mono hbv0).mono hbv1)
  have e0 := eX.c 0 rfl
  have e1 := eX.c 1 rfl
  have e2 := eX.c 2 rfl
  have ef := eX.f
  have el := eX.lt
  have ne1 : w.heap.size ≠ w.heap.size + 1 + 1 := by omega
  have ne2 : w.heap.size + 1 ≠ w.heap.size + 1 + 1 := by omega
  have ne3 : w.heap.size + 1 + 1 ≠ w.heap.size := by omega
  have ne4 : w.heap.size + 1 + 1 ≠ w.heap.size + 1 := by omega
  go_wp2_with fail
  refine bodyPost_ret (v := .agg #[.int .i64 (n : Int), .int .i64 (c : Int), .int .i64 p]) (by first | (simp [results, Try.results150, go_sem, *]; done) | (simp (disch := (first | omega | (simp; done) | (simp; omega))) [results, Try.results150, go_sem, *]; done) | (simp only [results, Try.results150]; go_simp; done)) rfl ⟨rfl, ?_⟩
  have chbv0 := chain hbW hbv0 hbW.size
  have chbv1 := chain chbv0 hbv1 chbv0.size
  (repeat' (first | (with_reducible exact Below.refl _ _) | (with_reducible assumption) | (with_reducible refine Below.alloc ?_ ?_ _) | (with_reducible refine Below.drew ?_) | (with_reducible refine below_drewN ?_ _) | (with_reducible refine Below.setCell ?_ ?_ _) | (with_reducible refine chain ?_ (by assumption) ?_) | omega | (simp; done) | (simp; omega)))

set_option maxRecDepth 100000 in
set_option maxHeartbeats 2000000 in
theorem kapplySwap_n {n c A B : Nat} {p kd : Int} {w : World} (h5 : n ≤ 5) (hA : A < n) (hB : B < n) (h : ¬ (bitI n c A = bitI n c B)) (hc : c < 2 ^ n) (p1 : -100 ≤ p) (p2 : p ≤ 100) :
    Calls Try.prog 150 #[.agg #[.int .i64 (n : Int), .int .i64 (c : Int), .int .i64 p], .agg #[.int .i64 kd, .int .i64 (A : Int), .int .i64 (B : Int)]] w fun ee w' => ee = .returned (.agg #[.int .i64 (n : Int), .int .i64 ((c ^^^ msk n A ^^^ msk n B : Nat) : Int), .int .i64 p]) ∧ Below w.heap.size w w' := by
  have hc9 : c < 32 := Nat.lt_of_lt_of_le hc (pow_le h5)
  have hk : ¬ (bitI n c A = bitI n c B) := h
  have h1 : (((bitI n c A : Nat) : Int) == ((bitI n c B : Nat) : Int)) = false := by simp; omega
  have h2 : ¬ (((bitI n c A : Nat) : Int) = ((bitI n c B : Nat) : Int)) := by omega
  clear h
  go_enter Try.func150, Try.ntmps150
  go_upto_region 1 with (fail)
  obtain ⟨W, hW⟩ : ∃ W : World, W = ((w.alloc (.cells #[.int .i64 (n : Int), .int .i64 (c : Int), .int .i64 p] 119)).alloc (.cells #[.int .i64 kd, .int .i64 (A : Int), .int .i64 (B : Int)] 59)).alloc (.cells #[.int .i64 0, .int .i64 0, .int .i64 0] 119) := ⟨_, rfl⟩
  have hbW : Below w.heap.size w W := by rw [hW]; exact (((Below.refl _ _).alloc (Nat.le_refl _) _).alloc (by simp) _).alloc (by simp; omega) _
  have cX : Bx W w.heap.size 119 #[.int .i64 (n : Int), .int .i64 (c : Int), .int .i64 p] := by rw [hW]; exact ((Bx.new rfl).alloc _).alloc _
  have gX : Bx W (w.heap.size + 1) 59 #[.int .i64 kd, .int .i64 (A : Int), .int .i64 (B : Int)] := by rw [hW]; exact (Bx.new (by simp)).alloc _
  have zX : Bx W (w.heap.size + 1 + 1) 119 #[.int .i64 0, .int .i64 0, .int .i64 0] := by rw [hW]; exact Bx.new (by simp)
  have hzW : w.heap.size + 1 + 1 < W.heap.size := by rw [hW]; simp
  rw [← hW]
  clear hW
  have c0 := cX.c 0 rfl
  have c1 := cX.c 1 rfl
  have c2 := cX.c 2 rfl
  have cl := cX.lt
  have g0 := gX.c 0 rfl
  have g1 := gX.c 1 rfl
  have g2 := gX.c 2 rfl
  have gl := gX.lt
  have yc0 : W.drew.cell? ⟨w.heap.size, 0, none⟩ = some (.int .i64 (n : Int)) := c0
  have yc1 : W.drew.cell? ⟨w.heap.size, 1, none⟩ = some (.int .i64 (c : Int)) := c1
  have yc2 : W.drew.cell? ⟨w.heap.size, 2, none⟩ = some (.int .i64 p) := c2
  have yg0 : W.drew.cell? ⟨w.heap.size + 1, 0, none⟩ = some (.int .i64 kd) := g0
  have yg1 : W.drew.cell? ⟨w.heap.size + 1, 1, none⟩ = some (.int .i64 (A : Int)) := g1
  have yg2 : W.drew.cell? ⟨w.heap.size + 1, 2, none⟩ = some (.int .i64 (B : Int)) := g2
  refine wp_region_x (fun w' => w'.cell? ⟨w.heap.size, 0, none⟩ = some (.int .i64 (n : Int)) ∧ w'.cell? ⟨w.heap.size, 1, none⟩ = some (.int .i64 (c : Int)) ∧ w'.cell? ⟨w.heap.size, 2, none⟩ = some (.int .i64 p) ∧ w'.cell? ⟨w.heap.size + 1, 0, none⟩ = some (.int .i64 kd) ∧ w'.cell? ⟨w.heap.size + 1, 1, none⟩ = some (.int .i64 (A : Int)) ∧ w'.cell? ⟨w.heap.size + 1, 2, none⟩ = some (.int .i64 (B : Int))) 1000 (by kernel_rfl) ⟨yc0, yc1, yc2, yg0, yg1, yg2⟩ (fun hS0 => ?_)
  refine wpAnyX_take (i := 0) (oi := _) (v := ?_) rfl (by kernel_rfl) (by kernel_rfl) (by kernel_rfl) (by kernel_rfl) (fun _ _ _ h => h) (Or.inl ⟨by rfl, ?_⟩) hS0 ?_
  rotate_left 1
  · (intro w hSw; (try dsimp only at hSw); go_simp; (try with_reducible rfl))
  try simp only [Act.put, List.setIfInBounds_toArray, List.set_cons_zero, List.set_cons_succ]
  refine wpAnyX_take (i := 1) (oi := _) (v := ?_) rfl (by kernel_rfl) (by kernel_rfl) (by kernel_rfl) (by kernel_rfl) (fun _ _ _ h => h) (Or.inl ⟨by rfl, ?_⟩) hS0 ?_
  rotate_left 1
  · (intro w hSw; (try dsimp only at hSw); go_simp; (try with_reducible rfl))
  try simp only [Act.put, List.setIfInBounds_toArray, List.set_cons_zero, List.set_cons_succ]
  refine wpAnyX_take (i := 2) (oi := _) (v := ?_) rfl (by kernel_rfl) (by kernel_rfl) (by kernel_rfl) (by kernel_rfl) (fun _ _ _ h => h) (Or.inl ⟨by rfl, ?_⟩) hS0 ?_
  rotate_left 1
  · (intro w hSw; (try dsimp only at hSw); go_simp; (try with_reducible rfl))
  try simp only [Act.put, List.setIfInBounds_toArray, List.set_cons_zero, List.set_cons_succ]
  refine wpAnyX_take (i := 4) (oi := _) (v := ?_) rfl (by kernel_rfl) (by kernel_rfl) (by kernel_rfl) (by kernel_rfl) (fun _ _ _ h => h) (Or.inl ⟨by rfl, ?_⟩) hS0 ?_
  rotate_left 1
  · (intro w hSw; (try dsimp only at hSw); go_simp; (try with_reducible rfl))
  try simp only [Act.put, List.setIfInBounds_toArray, List.set_cons_zero, List.set_cons_succ]
  refine wpAnyX_take (i := 5) (oi := _) (v := ?_) rfl (by kernel_rfl) (by kernel_rfl) (by kernel_rfl) (by kernel_rfl) (fun _ _ _ h => h) (Or.inl ⟨by rfl, ?_⟩) hS0 ?_
  rotate_left 1
  · (intro w hSw; (try dsimp only at hSw); go_simp; (try with_reducible rfl))
  try simp only [Act.put, List.setIfInBounds_toArray, List.set_cons_zero, List.set_cons_succ]
  refine wpAnyX_take (i := 6) (oi := _) (v := ?_) rfl (by kernel_rfl) (by kernel_rfl) (by kernel_rfl) (by kernel_rfl) (fun _ _ _ h => h) (Or.inl ⟨by rfl, ?_⟩) hS0 ?_
  rotate_left 1
  · (intro w hSw; (try dsimp only at hSw); go_simp; (try with_reducible rfl))
  try simp only [Act.put, List.setIfInBounds_toArray, List.set_cons_zero, List.set_cons_succ]
  refine wpAnyX_one (i := 3) (o := _) rfl (by kernel_rfl) (fun K hK => ?_)
  go_simp
  refine (kbit h5 hA hc9).mono ?_
  rintro ee v0 ⟨rfl, hbv00⟩
  have hbv0 := undrewK hbv00
  have hzv0 := hbv0.size
  refine hK.out _ _ (fun _ => ?_) (fun hS1 => ?_)
  · exact ⟨kc hbv00 (hS0.1), kc hbv00 (hS0.2.1), kc hbv00 (hS0.2.2.1), kc hbv00 (hS0.2.2.2.1), kc hbv00 (hS0.2.2.2.2.1), kc hbv00 (hS0.2.2.2.2.2)⟩
  clear hK K
  have hS1 := hS1 (by decide)
  try simp only [Act.put, List.setIfInBounds_toArray, List.set_cons_zero, List.set_cons_succ]
  refine wpAnyX_one (i := 7) (o := _) rfl (by kernel_rfl) (fun K hK => ?_)
  go_simp
  refine (kbit h5 hB hc9).mono ?_
  rintro ee v1 ⟨rfl, hbv1⟩
  have hzv1 := hbv1.size
  refine hK.out _ _ (fun _ => ?_) (fun hS2 => ?_)
  · exact ⟨kc hbv1 (hS1.1), kc hbv1 (hS1.2.1), kc hbv1 (hS1.2.2.1), kc hbv1 (hS1.2.2.2.1), kc hbv1 (hS1.2.2.2.2.1), kc hbv1 (hS1.2.2.2.2.2)⟩
  clear hK K
  have hS2 := hS2 (by decide)
  try simp only [Act.put, List.setIfInBounds_toArray, List.set_cons_zero, List.set_cons_succ]
  refine wpAnyX_take (i := 8) (oi := _) (v := ?_) rfl (by kernel_rfl) (by kernel_rfl) (by kernel_rfl) (by kernel_rfl) (fun _ _ _ h => h) (Or.inl ⟨by rfl, ?_⟩) hS2 ?_
  rotate_left 1
  · (intro w hSw; (try dsimp only at hSw); go_simp; (try with_reducible rfl))
  change wpAnyX _ _ _ _ _ _ _ _ (Act.put _ (some 13) _) _
  try simp only [Act.put, List.setIfInBounds_toArray, List.set_cons_zero, List.set_cons_succ]
  refine wpAnyX_done (by kernel_rfl) ?_ _
  have cX1 := (cX.mono hbv0).mono hbv1
  have gX1 := (gX.mono hbv0).mono hbv1
  have zX1 := (zX.mono hbv0).mono hbv1
  have chbv0 := chain hbW hbv0 hbW.size
  have chbv1 := chain chbv0 hbv1 chbv0.size
  clear cX gX zX c0 c1 c2 g0 g1 g2 hbW hbv0 chbv0
  obtain ⟨cX, gX, zX⟩ : _ ∧ _ ∧ _ := ⟨cX1, gX1, zX1⟩
  clear cX1 gX1 zX1
  have c0 := cX.c 0 rfl
  have c1 := cX.c 1 rfl
  have c2 := cX.c 2 rfl
  have cl := cX.lt
  have g0 := gX.c 0 rfl
  have g1 := gX.c 1 rfl
  have g2 := gX.c 2 rfl
  have gl := gX.lt
  go_wp2_with fail
  have yc0 : v1.drew.cell? ⟨w.heap.size, 0, none⟩ = some (.int .i64 (n : Int)) := c0
  have yc1 : v1.drew.cell? ⟨w.heap.size, 1, none⟩ = some (.int .i64 (c : Int)) := c1
  have yc2 : v1.drew.cell? ⟨w.heap.size, 2, none⟩ = some (.int .i64 p) := c2
  have yg0 : v1.drew.cell? ⟨w.heap.size + 1, 0, none⟩ = some (.int .i64 kd) := g0
  have yg1 : v1.drew.cell? ⟨w.heap.size + 1, 1, none⟩ = some (.int .i64 (A : Int)) := g1
  have yg2 : v1.drew.cell? ⟨w.heap.size + 1, 2, none⟩ = some (.int .i64 (B : Int)) := g2
  refine wp_region_x (fun w' => w'.cell? ⟨w.heap.size, 0, none⟩ = some (.int .i64 (n : Int)) ∧ w'.cell? ⟨w.heap.size, 1, none⟩ = some (.int .i64 (c : Int)) ∧ w'.cell? ⟨w.heap.size, 2, none⟩ = some (.int .i64 p) ∧ w'.cell? ⟨w.heap.size + 1, 0, none⟩ = some (.int .i64 kd) ∧ w'.cell? ⟨w.heap.size + 1, 1, none⟩ = some (.int .i64 (A : Int)) ∧ w'.cell? ⟨w.heap.size + 1, 2, none⟩ = some (.int .i64 (B : Int))) 7 (by kernel_rfl) ⟨yc0, yc1, yc2, yg0, yg1, yg2⟩ (fun hS0 => ?_)
  refine wpAnyX_take (i := 0) (oi := _) (v := ?_) rfl (by kernel_rfl) (by kernel_rfl) (by kernel_rfl) (by kernel_rfl) (fun _ _ _ h => h) (Or.inl ⟨by rfl, ?_⟩) hS0 ?_
  rotate_left 1
  · (intro w hSw; (try dsimp only at hSw); go_simp; (try with_reducible rfl))
  try simp only [Act.put, List.setIfInBounds_toArray, List.set_cons_zero, List.set_cons_succ]
  refine wpAnyX_take (i := 1) (oi := _) (v := ?_) rfl (by kernel_rfl) (by kernel_rfl) (by kernel_rfl) (by kernel_rfl) (fun _ _ _ h => h) (Or.inl ⟨by rfl, ?_⟩) hS0 ?_
  rotate_left 1
  · (intro w hSw; (try dsimp only at hSw); go_simp; (try with_reducible rfl))
  try simp only [Act.put, List.setIfInBounds_toArray, List.set_cons_zero, List.set_cons_succ]
  refine wpAnyX_take (i := 2) (oi := _) (v := ?_) rfl (by kernel_rfl) (by kernel_rfl) (by kernel_rfl) (by kernel_rfl) (fun _ _ _ h => h) (Or.inl ⟨by rfl, ?_⟩) hS0 ?_
  rotate_left 1
  · (intro w hSw; (try dsimp only at hSw); go_simp; (try with_reducible rfl))
  try simp only [Act.put, List.setIfInBounds_toArray, List.set_cons_zero, List.set_cons_succ]
  refine wpAnyX_take (i := 4) (oi := _) (v := ?_) rfl (by kernel_rfl) (by kernel_rfl) (by kernel_rfl) (by kernel_rfl) (fun _ _ _ h => h) (Or.inl ⟨by rfl, ?_⟩) hS0 ?_
  rotate_left 1
  · (intro w hSw; (try dsimp only at hSw); go_simp; (try with_reducible rfl))
  try simp only [Act.put, List.setIfInBounds_toArray, List.set_cons_zero, List.set_cons_succ]
  refine wpAnyX_take (i := 5) (oi := _) (v := ?_) rfl (by kernel_rfl) (by kernel_rfl) (by kernel_rfl) (by kernel_rfl) (fun _ _ _ h => h) (Or.inl ⟨by rfl, ?_⟩) hS0 ?_
  rotate_left 1
  · (intro w hSw; (try dsimp only at hSw); go_simp; (try with_reducible rfl))
  try simp only [Act.put, List.setIfInBounds_toArray, List.set_cons_zero, List.set_cons_succ]
  refine wpAnyX_one (i := 3) (o := _) rfl (by kernel_rfl) (fun K hK => ?_)
  go_simp
  refine (kflip h5 hA hc9).mono ?_
  rintro ee u0 ⟨rfl, hbu00⟩
  have hbu0 := undrewK hbu00
  have hzu0 := hbu0.size
  refine hK.out _ _ (fun _ => ?_) (fun hS1 => ?_)
  · exact ⟨kc hbu00 (hS0.1), kc hbu00 (hS0.2.1), kc hbu00 (hS0.2.2.1), kc hbu00 (hS0.2.2.2.1), kc hbu00 (hS0.2.2.2.2.1), kc hbu00 (hS0.2.2.2.2.2)⟩
  clear hK K
  have hS1 := hS1 (by decide)
  try simp only [Act.put, List.setIfInBounds_toArray, List.set_cons_zero, List.set_cons_succ]
  refine wpAnyX_one (i := 6) (o := _) rfl (by kernel_rfl) (fun K hK => ?_)
  go_simp
  refine (kflip h5 hB (Nat.lt_of_lt_of_le (flip_lt hc hA) (pow_le h5))).mono ?_
  rintro ee u1 ⟨rfl, hbu1⟩
  have hzu1 := hbu1.size
  refine hK.out _ _ (fun _ => ?_) (fun hS2 => ?_)
  · exact ⟨kc hbu1 (hS1.1), kc hbu1 (hS1.2.1), kc hbu1 (hS1.2.2.1), kc hbu1 (hS1.2.2.2.1), kc hbu1 (hS1.2.2.2.2.1), kc hbu1 (hS1.2.2.2.2.2)⟩
  clear hK K
  have hS2 := hS2 (by decide)
  try simp only [Act.put, List.setIfInBounds_toArray, List.set_cons_zero, List.set_cons_succ]
  refine wpAnyX_one (i := 7) (o := _) rfl (by kernel_rfl) (fun K hK => ?_)
  have dX := ((cX.mono hbu0).mono hbu1)
  have d0 := dX.c 0 rfl
  have d1 := dX.c 1 rfl
  have d2 := dX.c 2 rfl
  have df := dX.f
  have dl := dX.lt
  have hX := ((gX.mono hbu0).mono hbu1)
  have h0 := hX.c 0 rfl
  have h1 := hX.c 1 rfl
  have h2 := hX.c 2 rfl
  have hf := hX.f
  have hl := hX.lt
  have eX := ((zX.mono hbu0).mono hbu1)
  have e0 := eX.c 0 rfl
  have e1 := eX.c 1 rfl
  have e2 := eX.c 2 rfl
  have ef := eX.f
  have el := eX.lt
  have ne1 : w.heap.size ≠ w.heap.size + 1 + 1 := by omega
  have ne2 : w.heap.size + 1 ≠ w.heap.size + 1 + 1 := by omega
  have ne3 : w.heap.size + 1 + 1 ≠ w.heap.size := by omega
  have ne4 : w.heap.size + 1 + 1 ≠ w.heap.size + 1 := by omega
  go_simp
  refine hK.out _ _ (fun h => absurd rfl h) (fun _ => ?_)
  clear hK K
  try simp only [Act.put, List.setIfInBounds_toArray, List.set_cons_zero, List.set_cons_succ]
  refine wpAnyX_done (by kernel_rfl) ?_ _
  go_wp2_with fail
  refine bodyPost_ret (v := .agg #[.int .i64 (n : Int), .int .i64 ((c ^^^ msk n A ^^^ msk n B : Nat) : Int), .int .i64 p]) (by first | (simp [results, Try.results150, go_sem, *]; done) | (simp (disch := (first | omega | (simp; done) | (simp; omega))) [results, Try.results150, go_sem, *]; done) | (simp only [results, Try.results150]; go_simp; done)) rfl ⟨rfl, ?_⟩
  have chbu0 := chain chbv1 hbu0 chbv1.size
  have chbu1 := chain chbu0 hbu1 chbu0.size
  (repeat' (first | (with_reducible exact Below.refl _ _) | (with_reducible assumption) | (with_reducible refine Below.alloc ?_ ?_ _) | (with_reducible refine Below.drew ?_) | (with_reducible refine below_drewN ?_ _) | (with_reducible refine Below.setCell ?_ ?_ _) | (with_reducible refine chain ?_ (by assumption) ?_) | omega | (simp; done) | (simp; omega)))

end Go.Proofs.Ytncgccpkbneagaa
