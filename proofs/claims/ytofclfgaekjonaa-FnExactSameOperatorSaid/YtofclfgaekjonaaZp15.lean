/- Kt, Lc -/
import Derived.Test.YtofclfgaekjonaaZp13
import Derived.Test.YtofclfgaekjonaaZp14
import Derived.Test.YtofclfgaekjonaaZp1
import Derived.Test.YtofclfgaekjonaaZp8
import Derived.Deep.Cut
namespace Go.Proofs.Ytofclfgaekjonaa
open Go.RowKit RM
set_option linter.unusedVariables false
set_option linter.unusedSimpArgs false
attribute [local irreducible] World.setCell

open GM
set_option maxRecDepth 1000000 in
theorem band32 : (allN 32 fun a => allN 32 fun b => decide (bits .and .i64 (a : Int) (b : Int) = ((a &&& b : Nat) : Int))) = true := by decide +kernel
set_option maxRecDepth 1000000 in
theorem bxor32 : (allN 32 fun a => allN 32 fun b => decide (bits .xor .i64 (a : Int) (b : Int) = ((a ^^^ b : Nat) : Int))) = true := by decide +kernel
set_option maxRecDepth 1000000 in
theorem bnot32 : (allN 32 fun a => allN 32 fun b => decide (bits .andNot .i64 (a : Int) (b : Int) = ((a - (a &&& b) : Nat) : Int))) = true := by decide +kernel
theorem band {a b : Nat} (ha : a < 32) (hb : b < 32) : bits .and .i64 (a : Int) (b : Int) = ((a &&& b : Nat) : Int) := of_decide_eq_true (allN_get (allN_get band32 ha) hb)
theorem bxor {a b : Nat} (ha : a < 32) (hb : b < 32) : bits .xor .i64 (a : Int) (b : Int) = ((a ^^^ b : Nat) : Int) := of_decide_eq_true (allN_get (allN_get bxor32 ha) hb)
theorem bnot {a b : Nat} (ha : a < 32) (hb : b < 32) : bits .andNot .i64 (a : Int) (b : Int) = ((a - (a &&& b) : Nat) : Int) := of_decide_eq_true (allN_get (allN_get bnot32 ha) hb)
theorem msk32 {n q : Nat} (h5 : n ≤ 5) (hq : q < n) : msk n q < 32 := Nat.lt_of_lt_of_le (msk_lt hq) (pow_le h5)
set_option maxRecDepth 1000000 in
theorem shl_all : (allN 6 fun n => allN n fun q => decide (wrap64 ((2 : Int) ^ (n - 1 - q)) = ((msk n q : Nat) : Int))) = true := by decide +kernel
theorem shl_w {n q : Nat} (h5 : n ≤ 5) (hq : q < n) : wrap64 ((2 : Int) ^ (n - 1 - q)) = ((msk n q : Nat) : Int) := of_decide_eq_true (allN_get (allN_get shl_all (show n < 6 by omega)) hq)
theorem ret_i {k : IntKind} {a b : Int} (h : a = b) : Ending.returned (.int k a) = .returned (.int k b) := by rw [h]
theorem undrewK {W W' : World} (h : Below W.drew.heap.size W.drew W') : Below W.heap.size W W' := ⟨h.os, h.tape, h.output, h.size, h.block⟩

set_option maxRecDepth 100000 in
set_option maxHeartbeats 2000000 in
theorem kmask {n q c : Nat} {p : Int} {w : World} (h5 : n ≤ 5) (hq : q < n) :
    Calls Try.prog 203 #[.agg #[.int .i64 n, .int .i64 c, .int .i64 p], .int .i64 (q : Int)] w fun ee w' => ee = .returned (.int .i64 ((msk n q : Nat) : Int)) ∧ Below w.heap.size w w' := by
  have h1 : (n : Int) ≤ 5 := by omega
  have h2 : (q : Int) + 1 ≤ n := by omega
  have h3 : 0 ≤ (n : Int) - 1 - (q : Int) := by omega
  have HS := hid (shl_w h5 hq)
  go_enter Try.func203, Try.ntmps203
  go_wp2_with (fail)
  go_ret
  refine ⟨ret_i ?_, ?_⟩
  · exact HS.out
  · (repeat' (first | (with_reducible exact Below.refl _ _) | (with_reducible assumption) | (with_reducible refine Below.alloc ?_ ?_ _) | (with_reducible refine Below.drew ?_) | (with_reducible refine below_drewN ?_ _) | (with_reducible refine Below.setCell ?_ ?_ _) | (with_reducible refine chain ?_ (by assumption) ?_) | omega | (simp; done) | (simp; omega)))

set_option maxRecDepth 100000 in
set_option maxHeartbeats 2000000 in
theorem kbit_0 {n q c : Nat} {p : Int} {w : World} (h5 : n ≤ 5) (hq : q < n) (hc : c < 32) (h : c &&& msk n q = 0) :
    Calls Try.prog 188 #[.agg #[.int .i64 n, .int .i64 c, .int .i64 p], .int .i64 (q : Int)] w fun ee w' => ee = .returned (.int .i64 0) ∧ Below w.heap.size w w' := by
  have hz : bits .and .i64 (c : Int) ((msk n q : Nat) : Int) = 0 := by rw [band hc (msk32 h5 hq), h]; rfl
  clear h
  go_enter Try.func188, Try.ntmps188
  go_upto_region 1 with (fail)
  obtain ⟨W, hW⟩ : ∃ W : World, W = w.alloc (.cells #[.int .i64 (n : Int), .int .i64 (c : Int), .int .i64 p] 128) := ⟨_, rfl⟩
  have hbW : Below w.heap.size w W := by rw [hW]; exact (Below.refl _ _).alloc (Nat.le_refl _) _
  have XW : Bx W w.heap.size 128 #[.int .i64 (n : Int), .int .i64 (c : Int), .int .i64 p] := by rw [hW]; exact Bx.new rfl
  have hzW : w.heap.size < W.heap.size := by rw [hW]; simp
  rw [← hW]
  clear hW
  have c0 := XW.c 0 rfl
  have c1 := XW.c 1 rfl
  have c2 := XW.c 2 rfl
  have yc0 : W.drew.cell? ⟨w.heap.size, 0, none⟩ = some (.int .i64 (n : Int)) := c0
  have yc1 : W.drew.cell? ⟨w.heap.size, 1, none⟩ = some (.int .i64 (c : Int)) := c1
  have yc2 : W.drew.cell? ⟨w.heap.size, 2, none⟩ = some (.int .i64 p) := c2
  refine wp_region_x (fun w' => w'.cell? ⟨w.heap.size, 0, none⟩ = some (.int .i64 (n : Int)) ∧ w'.cell? ⟨w.heap.size, 1, none⟩ = some (.int .i64 (c : Int)) ∧ w'.cell? ⟨w.heap.size, 2, none⟩ = some (.int .i64 p)) 1000 (by kernel_rfl) ⟨yc0, yc1, yc2⟩ (fun hS0 => ?_)
  refine wpAnyX_take (i := 0) (oi := _) (v := ?_) rfl (by kernel_rfl) (by kernel_rfl) (by kernel_rfl) (by kernel_rfl) (fun _ _ _ h => h) (Or.inl ⟨by rfl, ?_⟩) hS0 ?_
  rotate_left 1
  · (intro w hSw; (try dsimp only at hSw); go_simp; (try with_reducible rfl))
  try simp only [Act.put, List.setIfInBounds_toArray, List.set_cons_zero, List.set_cons_succ]
  refine wpAnyX_take (i := 1) (oi := _) (v := ?_) rfl (by kernel_rfl) (by kernel_rfl) (by kernel_rfl) (by kernel_rfl) (fun _ _ _ h => h) (Or.inl ⟨by rfl, ?_⟩) hS0 ?_
  rotate_left 1
  · (intro w hSw; (try dsimp only at hSw); go_simp; (try with_reducible rfl))
  try simp only [Act.put, List.setIfInBounds_toArray, List.set_cons_zero, List.set_cons_succ]
  refine wpAnyX_take (i := 2) (oi := _) (v := ?_) rfl (by kernel_rfl) (by kernel_rfl) (by kernel_rfl) (by kernel_rfl) (fun _ _ _ h => h) (Or.inl ⟨by rfl, ?_⟩) hS0 ?_
  rotate_left 1
  · (intro w hSw; (try dsimp only at hSw); go_simp; (try with_reducible rfl))
  try simp only [Act.put, List.setIfInBounds_toArray, List.set_cons_zero, List.set_cons_succ]
  refine wpAnyX_take (i := 3) (oi := _) (v := ?_) rfl (by kernel_rfl) (by kernel_rfl) (by kernel_rfl) (by kernel_rfl) (fun _ _ _ h => h) (Or.inl ⟨by rfl, ?_⟩) hS0 ?_
  rotate_left 1
  · (intro w hSw; (try dsimp only at hSw); go_simp; (try with_reducible rfl))
  try simp only [Act.put, List.setIfInBounds_toArray, List.set_cons_zero, List.set_cons_succ]
  refine wpAnyX_one (i := 4) (o := _) rfl (by kernel_rfl) (fun K hK => ?_)
  go_simp
  refine (kmask h5 hq).mono ?_
  rintro ee w8 ⟨rfl, hb8⟩
  have hz8 := hb8.size
  refine hK.out _ _ (fun _ => ?_) (fun hS1 => ?_)
  · exact ⟨kc hb8 (hS0.1), kc hb8 (hS0.2.1), kc hb8 (hS0.2.2)⟩
  clear hK K
  have hS1 := hS1 (by decide)
  try simp only [Act.put, List.setIfInBounds_toArray, List.set_cons_zero, List.set_cons_succ]
  refine wpAnyX_take (i := 5) (oi := _) (v := ?_) rfl (by kernel_rfl) (by kernel_rfl) (by kernel_rfl) (by kernel_rfl) (fun _ _ _ h => h) (Or.inl ⟨by rfl, ?_⟩) hS1 ?_
  rotate_left 1
  · (intro w hSw; (try dsimp only at hSw); go_simp; (try with_reducible rfl))
  try simp only [Act.put, List.setIfInBounds_toArray, List.set_cons_zero, List.set_cons_succ]
  refine wpAnyX_take (i := 6) (oi := _) (v := ?_) rfl (by kernel_rfl) (by kernel_rfl) (by kernel_rfl) (by kernel_rfl) (fun _ _ _ h => h) (Or.inl ⟨by rfl, ?_⟩) hS1 ?_
  rotate_left 1
  · (intro w hSw; (try dsimp only at hSw); go_simp; (try with_reducible rfl))
  change wpAnyX _ _ _ _ _ _ _ _ (Act.put _ (some 11) _) _
  try simp only [Act.put, List.setIfInBounds_toArray, List.set_cons_zero, List.set_cons_succ]
  refine wpAnyX_done (by kernel_rfl) ?_ _
  go_wp2_with fail
  go_ret
  refine ⟨rfl, ?_⟩
  have hb9 := undrewK hb8
  (repeat' (first | (with_reducible exact Below.refl _ _) | (with_reducible assumption) | (with_reducible refine Below.alloc ?_ ?_ _) | (with_reducible refine Below.drew ?_) | (with_reducible refine below_drewN ?_ _) | (with_reducible refine Below.setCell ?_ ?_ _) | (with_reducible refine chain ?_ (by assumption) ?_) | omega | (simp; done) | (simp; omega)))

set_option maxRecDepth 100000 in
set_option maxHeartbeats 2000000 in
theorem kbit_1 {n q c : Nat} {p : Int} {w : World} (h5 : n ≤ 5) (hq : q < n) (hc : c < 32) (h : ¬ (c &&& msk n q = 0)) :
    Calls Try.prog 188 #[.agg #[.int .i64 n, .int .i64 c, .int .i64 p], .int .i64 (q : Int)] w fun ee w' => ee = .returned (.int .i64 1) ∧ Below w.heap.size w w' := by
  obtain ⟨z, hz9⟩ : ∃ z : Nat, z = c &&& msk n q := ⟨_, rfl⟩
  have hz : bits .and .i64 (c : Int) ((msk n q : Nat) : Int) = (z : Int) := by rw [band hc (msk32 h5 hq), ← hz9]
  have hz1 : 1 ≤ z := by omega
  have hz2 : ((z : Int) == 0) = false := by simp; omega
  clear hz9
  clear h
  go_enter Try.func188, Try.ntmps188
  go_upto_region 1 with (fail)
  obtain ⟨W, hW⟩ : ∃ W : World, W = w.alloc (.cells #[.int .i64 (n : Int), .int .i64 (c : Int), .int .i64 p] 128) := ⟨_, rfl⟩
  have hbW : Below w.heap.size w W := by rw [hW]; exact (Below.refl _ _).alloc (Nat.le_refl _) _
  have XW : Bx W w.heap.size 128 #[.int .i64 (n : Int), .int .i64 (c : Int), .int .i64 p] := by rw [hW]; exact Bx.new rfl
  have hzW : w.heap.size < W.heap.size := by rw [hW]; simp
  rw [← hW]
  clear hW
  have c0 := XW.c 0 rfl
  have c1 := XW.c 1 rfl
  have c2 := XW.c 2 rfl
  have yc0 : W.drew.cell? ⟨w.heap.size, 0, none⟩ = some (.int .i64 (n : Int)) := c0
  have yc1 : W.drew.cell? ⟨w.heap.size, 1, none⟩ = some (.int .i64 (c : Int)) := c1
  have yc2 : W.drew.cell? ⟨w.heap.size, 2, none⟩ = some (.int .i64 p) := c2
  refine wp_region_x (fun w' => w'.cell? ⟨w.heap.size, 0, none⟩ = some (.int .i64 (n : Int)) ∧ w'.cell? ⟨w.heap.size, 1, none⟩ = some (.int .i64 (c : Int)) ∧ w'.cell? ⟨w.heap.size, 2, none⟩ = some (.int .i64 p)) 1000 (by kernel_rfl) ⟨yc0, yc1, yc2⟩ (fun hS0 => ?_)
  refine wpAnyX_take (i := 0) (oi := _) (v := ?_) rfl (by kernel_rfl) (by kernel_rfl) (by kernel_rfl) (by kernel_rfl) (fun _ _ _ h => h) (Or.inl ⟨by rfl, ?_⟩) hS0 ?_
  rotate_left 1
  · (intro w hSw; (try dsimp only at hSw); go_simp; (try with_reducible rfl))
  try simp only [Act.put, List.setIfInBounds_toArray, List.set_cons_zero, List.set_cons_succ]
  refine wpAnyX_take (i := 1) (oi := _) (v := ?_) rfl (by kernel_rfl) (by kernel_rfl) (by kernel_rfl) (by kernel_rfl) (fun _ _ _ h => h) (Or.inl ⟨by rfl, ?_⟩) hS0 ?_
  rotate_left 1
  · (intro w hSw; (try dsimp only at hSw); go_simp; (try with_reducible rfl))
  try simp only [Act.put, List.setIfInBounds_toArray, List.set_cons_zero, List.set_cons_succ]
  refine wpAnyX_take (i := 2) (oi := _) (v := ?_) rfl (by kernel_rfl) (by kernel_rfl) (by kernel_rfl) (by kernel_rfl) (fun _ _ _ h => h) (Or.inl ⟨by rfl, ?_⟩) hS0 ?_
  rotate_left 1
  · (intro w hSw; (try dsimp only at hSw); go_simp; (try with_reducible rfl))
  try simp only [Act.put, List.setIfInBounds_toArray, List.set_cons_zero, List.set_cons_succ]
  refine wpAnyX_take (i := 3) (oi := _) (v := ?_) rfl (by kernel_rfl) (by kernel_rfl) (by kernel_rfl) (by kernel_rfl) (fun _ _ _ h => h) (Or.inl ⟨by rfl, ?_⟩) hS0 ?_
  rotate_left 1
  · (intro w hSw; (try dsimp only at hSw); go_simp; (try with_reducible rfl))
  try simp only [Act.put, List.setIfInBounds_toArray, List.set_cons_zero, List.set_cons_succ]
  refine wpAnyX_one (i := 4) (o := _) rfl (by kernel_rfl) (fun K hK => ?_)
  go_simp
  refine (kmask h5 hq).mono ?_
  rintro ee w8 ⟨rfl, hb8⟩
  have hz8 := hb8.size
  refine hK.out _ _ (fun _ => ?_) (fun hS1 => ?_)
  · exact ⟨kc hb8 (hS0.1), kc hb8 (hS0.2.1), kc hb8 (hS0.2.2)⟩
  clear hK K
  have hS1 := hS1 (by decide)
  try simp only [Act.put, List.setIfInBounds_toArray, List.set_cons_zero, List.set_cons_succ]
  refine wpAnyX_take (i := 5) (oi := _) (v := ?_) rfl (by kernel_rfl) (by kernel_rfl) (by kernel_rfl) (by kernel_rfl) (fun _ _ _ h => h) (Or.inl ⟨by rfl, ?_⟩) hS1 ?_
  rotate_left 1
  · (intro w hSw; (try dsimp only at hSw); go_simp; (try with_reducible rfl))
  try simp only [Act.put, List.setIfInBounds_toArray, List.set_cons_zero, List.set_cons_succ]
  refine wpAnyX_take (i := 6) (oi := _) (v := ?_) rfl (by kernel_rfl) (by kernel_rfl) (by kernel_rfl) (by kernel_rfl) (fun _ _ _ h => h) (Or.inl ⟨by rfl, ?_⟩) hS1 ?_
  rotate_left 1
  · (intro w hSw; (try dsimp only at hSw); go_simp; (try with_reducible rfl))
  change wpAnyX _ _ _ _ _ _ _ _ (Act.put _ (some 11) _) _
  try simp only [Act.put, List.setIfInBounds_toArray, List.set_cons_zero, List.set_cons_succ]
  refine wpAnyX_done (by kernel_rfl) ?_ _
  go_wp2_with fail
  go_ret
  refine ⟨rfl, ?_⟩
  have hb9 := undrewK hb8
  (repeat' (first | (with_reducible exact Below.refl _ _) | (with_reducible assumption) | (with_reducible refine Below.alloc ?_ ?_ _) | (with_reducible refine Below.drew ?_) | (with_reducible refine below_drewN ?_ _) | (with_reducible refine Below.setCell ?_ ?_ _) | (with_reducible refine chain ?_ (by assumption) ?_) | omega | (simp; done) | (simp; omega)))

theorem kbit {n q c : Nat} {p : Int} {w : World} (h5 : n ≤ 5) (hq : q < n) (hc : c < 32) :
    Calls Try.prog 188 #[.agg #[.int .i64 n, .int .i64 c, .int .i64 p], .int .i64 (q : Int)] w fun ee w' => ee = .returned (.int .i64 ((bitI n c q : Nat) : Int)) ∧ Below w.heap.size w w' := by
  rcases bitI_01 (n := n) (c := c) (q := q) with h | h
  · rw [h]; exact kbit_0 h5 hq hc (bitI_iff.1 h)
  · rw [h]; exact kbit_1 h5 hq hc (fun h2 => by rw [bitI_iff.2 h2] at h; cases h)

end Go.Proofs.Ytofclfgaekjonaa
namespace Go.Proofs.Ytofclfgaekjonaa
open Go.RowKit RM
set_option linter.unusedVariables false
set_option linter.unusedSimpArgs false
attribute [local irreducible] World.setCell

open GM
set_option maxRecDepth 1000000 in
theorem sh_all : (allN 6 fun n => allN n fun q => allN 32 fun c => decide (bits .and .i64 ((c : Int) / 2 ^ (n - 1 - q)) 1 = ((bitS n c q : Nat) : Int))) = true := by decide +kernel
theorem sh_at {n q c : Nat} (h5 : n ≤ 5) (hq : q < n) (hc : c < 32) : bits .and .i64 ((c : Int) / 2 ^ (n - 1 - q)) 1 = ((bitS n c q : Nat) : Int) := of_decide_eq_true (allN_get (allN_get (allN_get sh_all (show n < 6 by omega)) hq) hc)
theorem cellD_0 {m : Nat} : cellD m 0 = omP m := by
  have h : (omP m).e = 0 := by unfold omP; rw [turn_e]; rfl
  show (⟨(omP m).a, (omP m).b, (omP m).c, (omP m).d, ((0 : Nat) : Int)⟩ : D5) = omP m
  rw [show ((0 : Nat) : Int) = (omP m).e from h.symm]

set_option maxRecDepth 100000 in
set_option maxHeartbeats 2000000 in
theorem lbit {n q c : Nat} {w : World} (h5 : n ≤ 5) (hq : q < n) (hc : c < 32) :
    Calls Try.prog 205 #[.int .i64 (n : Int), .int .i64 (c : Int), .int .i64 (q : Int)] w fun ee w' => ee = .returned (.int .i64 ((bitS n c q : Nat) : Int)) ∧ w = w' := by
  have h1 : (n : Int) ≤ 5 := by omega
  have h2 : (q : Int) + 1 ≤ n := by omega
  have h3 : 0 ≤ (n : Int) - 1 - (q : Int) := by omega
  have h4 : (c : Int) < 32 := by omega
  go_enter Try.func205, Try.ntmps205
  go_wp2_with (fail)
  go_ret
  refine ⟨ret_i ?_, rfl⟩
  exact sh_at h5 hq hc

theorem tn_o {m : Nat} {w : World} (hm : m < 8) :
    Calls Try.prog 161 #[rg 1 0 0 0, .int .i64 (m : Int)] w fun ee w' => ee = .returned (rg (turn m one5).a (turn m one5).b (turn m one5).c (turn m one5).d) ∧ Below w.heap.size w w' :=
  tn_s (a := 1) (b := 0) (c := 0) (d := 0) (e := 0) hm (by omega) (by decide)
set_option maxRecDepth 100000 in
set_option maxHeartbeats 2000000 in
theorem lpw {m : Nat} {w : World} (hm : m < 8) :
    Calls Try.prog 129 #[.int .i64 (m : Int)] w fun ee w' => ee = .returned (omP m).v ∧ Below w.heap.size w w' := by
  rw [omP_v]
  have HM := hid hm
  clear hm
  go_enter Try.func129, Try.ntmps129
  go_wp2_with (fail)
  refine (tn_o HM.out).mono ?_
  rintro ee w1 ⟨rfl, hb1⟩
  obtain ⟨hc1, hf1, _⟩ := bcell hb1; have hz1 := hb1.size; (try simp at hz1); (try have hx10 : w.heap.size < w1.heap.size := (by omega)); (try have hx11 : w.heap.size + 1 < w1.heap.size := (by omega)); (try have hx12 : w.heap.size + 1 + 1 < w1.heap.size := (by omega)); (try have hx13 : w.heap.size + 1 + 1 + 1 < w1.heap.size := (by omega))
  go_wp2_with (fail)
  refine bodyPost_ret (v := dy (turn m one5).a (turn m one5).b (turn m one5).c (turn m one5).d 0) (by first | (simp [results, Try.results129, go_sem, *]; done) | (simp (disch := (first | omega | (simp; done) | (simp; omega))) [results, Try.results129, go_sem, *]; done) | (simp only [results, Try.results129]; go_simp; done)) rfl ⟨rfl, ?_⟩
  (repeat' (first | (with_reducible exact Below.refl _ _) | (with_reducible assumption) | (with_reducible refine Below.alloc ?_ ?_ _) | (with_reducible refine Below.drew ?_) | (with_reducible refine below_drewN ?_ _) | (with_reducible refine Below.setCell ?_ ?_ _) | (with_reducible refine chain ?_ (by assumption) ?_) | omega | (simp; done) | (simp; omega)))

theorem lpw0 {w : World} : Calls Try.prog 129 #[.int .i64 0] w fun ee w' => ee = .returned (omP 0).v ∧ Below w.heap.size w w' := lpw (m := 0) (by decide)
theorem lpw1 {w : World} : Calls Try.prog 129 #[.int .i64 1] w fun ee w' => ee = .returned (omP 1).v ∧ Below w.heap.size w w' := lpw (m := 1) (by decide)
theorem lpw2 {w : World} : Calls Try.prog 129 #[.int .i64 2] w fun ee w' => ee = .returned (omP 2).v ∧ Below w.heap.size w w' := lpw (m := 2) (by decide)
theorem lpw4 {w : World} : Calls Try.prog 129 #[.int .i64 4] w fun ee w' => ee = .returned (omP 4).v ∧ Below w.heap.size w w' := lpw (m := 4) (by decide)
theorem lpw6 {w : World} : Calls Try.prog 129 #[.int .i64 6] w fun ee w' => ee = .returned (omP 6).v ∧ Below w.heap.size w w' := lpw (m := 6) (by decide)
theorem lpw7 {w : World} : Calls Try.prog 129 #[.int .i64 7] w fun ee w' => ee = .returned (omP 7).v ∧ Below w.heap.size w w' := lpw (m := 7) (by decide)
end Go.Proofs.Ytofclfgaekjonaa
