/- The tableau of a gate: the model. -/
import Derived.Test.YtjedpeoafpljhaaPgt
import Derived.Test.YtjedpeoafpljhaaE8h
import Derived.Test.YtjedpeoafpljhaaPs
import Derived.Test.YtjedpeoafpljhaaRgx
import Derived.Deep.DeepCutAuto
namespace Go.Proofs.Ytjedpeoafpljhaa.C4
open Go.RowKit
set_option linter.unusedVariables false
set_option linter.unusedSimpArgs false
attribute [local irreducible] World.setCell

open GM
/-- both bits -/
def orw (a b : Nat) : Nat := 2 ^ a ||| 2 ^ b
theorem mg_all : (allN 5 fun a => allN 5 fun b => decide (a = b ∨ (mp 0 (2 ^ a) 0 0 (2 ^ b) 0 = 0 ∧ mp 0 0 (2 ^ a) 0 0 (2 ^ b) = 0 ∧ mp 0 (2 ^ a) 0 0 0 (2 ^ b) = 0 ∧ mp 0 0 (2 ^ a) 0 (2 ^ b) 0 = 0 ∧ 2 ^ a ^^^ 2 ^ b = 2 ^ a ||| 2 ^ b))) = true := by decide +kernel
theorem mg_at {a b : Nat} (ha : a < 5) (hb : b < 5) (h : a ≠ b) : mp 0 (2 ^ a) 0 0 (2 ^ b) 0 = 0 ∧ mp 0 0 (2 ^ a) 0 0 (2 ^ b) = 0 ∧ mp 0 (2 ^ a) 0 0 0 (2 ^ b) = 0 ∧ mp 0 0 (2 ^ a) 0 (2 ^ b) 0 = 0 ∧ 2 ^ a ^^^ 2 ^ b = 2 ^ a ||| 2 ^ b := by
  rcases of_decide_eq_true (allN_get (allN_get mg_all ha) hb) with e | e
  · exact absurd e h
  · exact e
set_option maxRecDepth 100000 in
set_option maxHeartbeats 2000000 in
theorem lm_xx {n a b : Nat} (q5 : n ≤ 5) (ha : a < n) (hb : b < n) (hab : a ≠ b) (w : World) :
    Calls Try.prog 183 #[.agg #[.int .i64 0, .int .i64 ((pw a : Nat) : Int), .int .i64 0], .agg #[.int .i64 0, .int .i64 ((pw b : Nat) : Int), .int .i64 0]] w fun ee w' => ee = .returned (.agg #[.int .i64 0, .int .i64 ((orw a b : Nat) : Int), .int .i64 0]) ∧ Below w.heap.size w w' := by
  have p5a : 2 ^ a < 32 := Nat.lt_of_lt_of_le (Nat.pow_lt_pow_right (a := 2) (by decide) (show a < 5 by omega)) (by decide)
  have p5b : 2 ^ b < 32 := Nat.lt_of_lt_of_le (Nat.pow_lt_pow_right (a := 2) (by decide) (show b < 5 by omega)) (by decide)
  have p50 : 0 < 32 := by decide
  obtain ⟨m1, m2, m3, m4, m5⟩ := mg_at (show a < 5 by omega) (show b < 5 by omega) hab
  refine (l7m (pa := 0) (xa := 2 ^ a) (za := 0) (pb := 0) (xb := 2 ^ b) (zb := 0) (by decide) (by decide) p5a p50 p5b p50 w).mono ?_
  rintro ee w1 ⟨rfl, hb1⟩
  refine ⟨?_, hb1⟩
  show _ = Ending.returned ((pv 0 (orw a b) (0)).v)
  have e : mulV 0 (2 ^ a) 0 0 (2 ^ b) 0 = pv 0 (orw a b) (0) := by unfold mulV; rw [m1]; first | rfl | (rw [m5]; rfl) | (rw [Nat.xor_zero, Nat.zero_xor]; rfl) | (rw [Nat.zero_xor, Nat.xor_zero]; rfl)
  rw [e]

set_option maxRecDepth 100000 in
set_option maxHeartbeats 2000000 in
theorem lm_zz {n a b : Nat} (q5 : n ≤ 5) (ha : a < n) (hb : b < n) (hab : a ≠ b) (w : World) :
    Calls Try.prog 183 #[.agg #[.int .i64 0, .int .i64 0, .int .i64 ((pw a : Nat) : Int)], .agg #[.int .i64 0, .int .i64 0, .int .i64 ((pw b : Nat) : Int)]] w fun ee w' => ee = .returned (.agg #[.int .i64 0, .int .i64 0, .int .i64 ((orw a b : Nat) : Int)]) ∧ Below w.heap.size w w' := by
  have p5a : 2 ^ a < 32 := Nat.lt_of_lt_of_le (Nat.pow_lt_pow_right (a := 2) (by decide) (show a < 5 by omega)) (by decide)
  have p5b : 2 ^ b < 32 := Nat.lt_of_lt_of_le (Nat.pow_lt_pow_right (a := 2) (by decide) (show b < 5 by omega)) (by decide)
  have p50 : 0 < 32 := by decide
  obtain ⟨m1, m2, m3, m4, m5⟩ := mg_at (show a < 5 by omega) (show b < 5 by omega) hab
  refine (l7m (pa := 0) (xa := 0) (za := 2 ^ a) (pb := 0) (xb := 0) (zb := 2 ^ b) (by decide) (by decide) p50 p5a p50 p5b w).mono ?_
  rintro ee w1 ⟨rfl, hb1⟩
  refine ⟨?_, hb1⟩
  show _ = Ending.returned ((pv 0 (0) (orw a b)).v)
  have e : mulV 0 0 (2 ^ a) 0 0 (2 ^ b) = pv 0 (0) (orw a b) := by unfold mulV; rw [m2]; first | rfl | (rw [m5]; rfl) | (rw [Nat.xor_zero, Nat.zero_xor]; rfl) | (rw [Nat.zero_xor, Nat.xor_zero]; rfl)
  rw [e]

set_option maxRecDepth 100000 in
set_option maxHeartbeats 2000000 in
theorem lm_xz {n a b : Nat} (q5 : n ≤ 5) (ha : a < n) (hb : b < n) (hab : a ≠ b) (w : World) :
    Calls Try.prog 183 #[.agg #[.int .i64 0, .int .i64 ((pw a : Nat) : Int), .int .i64 0], .agg #[.int .i64 0, .int .i64 0, .int .i64 ((pw b : Nat) : Int)]] w fun ee w' => ee = .returned (.agg #[.int .i64 0, .int .i64 ((pw a : Nat) : Int), .int .i64 ((pw b : Nat) : Int)]) ∧ Below w.heap.size w w' := by
  have p5a : 2 ^ a < 32 := Nat.lt_of_lt_of_le (Nat.pow_lt_pow_right (a := 2) (by decide) (show a < 5 by omega)) (by decide)
  have p5b : 2 ^ b < 32 := Nat.lt_of_lt_of_le (Nat.pow_lt_pow_right (a := 2) (by decide) (show b < 5 by omega)) (by decide)
  have p50 : 0 < 32 := by decide
  obtain ⟨m1, m2, m3, m4, m5⟩ := mg_at (show a < 5 by omega) (show b < 5 by omega) hab
  refine (l7m (pa := 0) (xa := 2 ^ a) (za := 0) (pb := 0) (xb := 0) (zb := 2 ^ b) (by decide) (by decide) p5a p50 p50 p5b w).mono ?_
  rintro ee w1 ⟨rfl, hb1⟩
  refine ⟨?_, hb1⟩
  show _ = Ending.returned ((pv 0 (pw a) (pw b)).v)
  have e : mulV 0 (2 ^ a) 0 0 0 (2 ^ b) = pv 0 (pw a) (pw b) := by unfold mulV; rw [m3]; first | rfl | (rw [m5]; rfl) | (rw [Nat.xor_zero, Nat.zero_xor]; rfl) | (rw [Nat.zero_xor, Nat.xor_zero]; rfl)
  rw [e]

set_option maxRecDepth 100000 in
set_option maxHeartbeats 2000000 in
theorem lm_zx {n a b : Nat} (q5 : n ≤ 5) (ha : a < n) (hb : b < n) (hab : a ≠ b) (w : World) :
    Calls Try.prog 183 #[.agg #[.int .i64 0, .int .i64 0, .int .i64 ((pw a : Nat) : Int)], .agg #[.int .i64 0, .int .i64 ((pw b : Nat) : Int), .int .i64 0]] w fun ee w' => ee = .returned (.agg #[.int .i64 0, .int .i64 ((pw b : Nat) : Int), .int .i64 ((pw a : Nat) : Int)]) ∧ Below w.heap.size w w' := by
  have p5a : 2 ^ a < 32 := Nat.lt_of_lt_of_le (Nat.pow_lt_pow_right (a := 2) (by decide) (show a < 5 by omega)) (by decide)
  have p5b : 2 ^ b < 32 := Nat.lt_of_lt_of_le (Nat.pow_lt_pow_right (a := 2) (by decide) (show b < 5 by omega)) (by decide)
  have p50 : 0 < 32 := by decide
  obtain ⟨m1, m2, m3, m4, m5⟩ := mg_at (show a < 5 by omega) (show b < 5 by omega) hab
  refine (l7m (pa := 0) (xa := 0) (za := 2 ^ a) (pb := 0) (xb := 2 ^ b) (zb := 0) (by decide) (by decide) p50 p5a p5b p50 w).mono ?_
  rintro ee w1 ⟨rfl, hb1⟩
  refine ⟨?_, hb1⟩
  show _ = Ending.returned ((pv 0 (pw b) (pw a)).v)
  have e : mulV 0 0 (2 ^ a) 0 (2 ^ b) 0 = pv 0 (pw b) (pw a) := by unfold mulV; rw [m4]; first | rfl | (rw [m5]; rfl) | (rw [Nat.xor_zero, Nat.zero_xor]; rfl) | (rw [Nat.zero_xor, Nat.xor_zero]; rfl)
  rw [e]

theorem or_sw (a b : Nat) : 2 ^ b ||| 2 ^ a = 2 ^ a ||| 2 ^ b := Nat.or_comm _ _
set_option maxRecDepth 100000 in
set_option maxHeartbeats 16000000 in
theorem gts {k n a b : Nat} (q1 : 1 ≤ n) (q5 : n ≤ 5) (hk : k = 1 ∨ k = 2 ∨ k = 3 ∨ k = 4 ∨ k = 5 ∨ k = 6 ∨ k = 9 ∨ k = 10 ∨ k = 11 ∨ k = 12) (ha : a < n) (hb : b < n) (hab : 9 ≤ k → k ≤ 11 → a ≠ b) (w : World) :
    Calls Try.prog 139 #[.int .i64 (n : Int), .agg #[.int .i64 (k : Int), .int .i64 (a : Int), .int .i64 (b : Int)]] w fun ee w' => ∃ gx cx gz cz : Nat, ee = .returned (tableauV n (some ⟨gx, 0, none⟩) n cx (some ⟨gz, 0, none⟩) n cz) ∧ Bs pauliE w' gx 43 (tab n (gtX k a b)) ∧ Bs pauliE w' gz 43 (tab n (gtZ k a b)) ∧ Below w.heap.size w w' := by
  have HK := lay hk
  clear hk
  have al : (a : Int) < (n : Int) := by omega
  have bl : (b : Int) < (n : Int) := by omega
  go_enter Try.func139, Try.ntmps139
  go_wp2_with (fail)
  refine (l7id q1 q5 _).mono ?_
  rintro ee w1 ⟨vx, vz, rfl, hO, hb1⟩
  obtain ⟨gx, cx, gz, cz, rfl, rfl, hK1, hK2, hg1, hg2, hne⟩ := Ow2.split q1 hO
  have hz1 := hb1.size
  (try simp only [World.size_alloc] at hz1 hg1 hg2)
  have Xg : Hid (Bb w1 (w.heap.size) 116 #[.int .i64 (k : Int), .int .i64 (a : Int), .int .i64 (b : Int)]) := by show Bb _ _ _ _; (repeat' (first | (with_reducible assumption) | (refine Bb.new (by first | (with_reducible rfl) | (simp; done))) | (with_reducible refine Bb.alloc ?_ _) | (with_reducible refine Bb.drew ?_) | (with_reducible refine Bb.drewN ?_ _) | (with_reducible refine Bb.mono ?_ (by assumption)) | (with_reducible refine Bb.far ?_ (by (try simp only [World.size_alloc, World.size_drew]); omega)) | (with_reducible refine Bb.set ?_ rfl) | (with_reducible refine Bb.grown ?_ (by assumption) (by assumption))))
  have Xt : Hid (Bb w1 (w.heap.size + 1) 53 #[.int .i64 0, .slice none 0 0, .slice none 0 0]) := by show Bb _ _ _ _; (repeat' (first | (with_reducible assumption) | (refine Bb.new (by first | (with_reducible rfl) | (simp; done))) | (with_reducible refine Bb.alloc ?_ _) | (with_reducible refine Bb.drew ?_) | (with_reducible refine Bb.drewN ?_ _) | (with_reducible refine Bb.mono ?_ (by assumption)) | (with_reducible refine Bb.far ?_ (by (try simp only [World.size_alloc, World.size_drew]); omega)) | (with_reducible refine Bb.set ?_ rfl) | (with_reducible refine Bb.grown ?_ (by assumption) (by assumption))))
  have hB1 : Below w.heap.size w w1 := by (repeat' (first | (with_reducible exact Below.refl _ _) | (with_reducible assumption) | (with_reducible refine Below.alloc ?_ ?_ _) | (with_reducible refine Below.drew ?_) | (with_reducible refine bdN ?_ _) | (with_reducible refine Below.setCell ?_ ?_ _) | (with_reducible refine chn ?_ (by assumption) ?_) | omega | (simp; done) | (simp; omega)))
  have lx := hK1.lt
  have lz := hK2.lt
  have K1 := lay hK1
  have K2 := lay hK2
  clear hb1 hO hK1 hK2
  have e1 := pw_w (show a ≤ 5 by omega)
  have e2 := pw_k (show a ≤ 5 by omega)
  have e3 := pw_w (show b ≤ 5 by omega)
  have e4 := pw_k (show b ≤ 5 by omega)
  have i1 : IntKind.u64.wrap ((a : Int)) = (a : Int) := IntWalk.u64_in _ (by omega)
  have i2 : IntKind.u64.wrap ((b : Int)) = (b : Int) := IntWalk.u64_in _ (by omega)
  go_wp2_with (fail)
  obtain ⟨W, hW⟩ : ∃ W : World, W = w1.alloc (.cells #[.int .i64 (n : Int), .slice (some ⟨gx, 0, none⟩) n cx, .slice (some ⟨gz, 0, none⟩) n cz] 53) := ⟨_, rfl⟩
  have hzW : w1.heap.size + 1 ≤ W.heap.size := by rw [hW]; simp
  have hBW : Below w.heap.size w W := by rw [hW]; exact hB1.alloc (by omega) _
  have Yg : Hid (Bb W (w.heap.size) 116 #[.int .i64 (k : Int), .int .i64 (a : Int), .int .i64 (b : Int)]) := by show Bb _ _ _ _; rw [hW]; exact Xg.out.alloc _
  have Yt : Hid (Bb W (w.heap.size + 1) 53 #[.int .i64 0, .slice none 0 0, .slice none 0 0]) := by show Bb _ _ _ _; rw [hW]; exact Xt.out.alloc _
  have Y5 : Hid (Bb W (w1.heap.size) 53 #[.int .i64 (n : Int), .slice (some ⟨gx, 0, none⟩) n cx, .slice (some ⟨gz, 0, none⟩) n cz]) := by show Bb _ _ _ _; rw [hW]; exact Bb.new rfl
  have HYX : Hid (Bs pauliE W gx 43 (tab n genX)) := by show Bs _ _ _ _ _; rw [hW]; exact K1.out.alloc _
  have HYZ : Hid (Bs pauliE W gz 43 (tab n genZ)) := by show Bs _ _ _ _ _; rw [hW]; exact K2.out.alloc _
  rw [← hW]
  clear hW Xg Xt K1 K2 hB1
  have cg0 := Yg.out.c 0 rfl
  have cg1 := Yg.out.c 1 rfl
  have cg2 := Yg.out.c 2 rfl
  go_cut [6, 7] (fun s6 s7 wx => ∃ p6 p7 : Nat, s6 = .pointer (some ⟨p6, 0, none⟩) ∧ s7 = .pointer (some ⟨p7, 0, none⟩) ∧ Hid (Bb wx (p6) 43 #[.int .i64 0, .int .i64 ((pw a : Nat) : Int), .int .i64 0]) ∧ Hid (Bb wx (p7) 43 #[.int .i64 0, .int .i64 0, .int .i64 ((pw a : Nat) : Int)]) ∧ Hid (Bb wx (w.heap.size) 116 #[.int .i64 (k : Int), .int .i64 (a : Int), .int .i64 (b : Int)]) ∧ Hid (Bb wx (w.heap.size + 1) 53 #[.int .i64 0, .slice none 0 0, .slice none 0 0]) ∧ Hid (Bb wx (w1.heap.size) 53 #[.int .i64 (n : Int), .slice (some ⟨gx, 0, none⟩) n cx, .slice (some ⟨gz, 0, none⟩) n cz]) ∧ Hid (Bs pauliE wx gx 43 (tab n genX)) ∧ Hid (Bs pauliE wx gz 43 (tab n genZ)) ∧ W.heap.size ≤ p6 ∧ W.heap.size ≤ p7 ∧ p6 ≠ p7 ∧ Below w.heap.size w wx)
  case first =>
    have ycg0 : W.drew.cell? ⟨w.heap.size, 0, none⟩ = some (.int .i64 (k : Int)) := cg0
    have ycg1 : W.drew.cell? ⟨w.heap.size, 1, none⟩ = some (.int .i64 (a : Int)) := cg1
    have ycg2 : W.drew.cell? ⟨w.heap.size, 2, none⟩ = some (.int .i64 (b : Int)) := cg2
    refine wp_region_x (fun w' => w'.cell? ⟨w.heap.size, 0, none⟩ = some (.int .i64 (k : Int)) ∧ w'.cell? ⟨w.heap.size, 1, none⟩ = some (.int .i64 (a : Int)) ∧ w'.cell? ⟨w.heap.size, 2, none⟩ = some (.int .i64 (b : Int))) 1000 (by kernel_rfl) ⟨ycg0, ycg1, ycg2⟩ (fun hS0 => ?_)
    refine wpAnyX_take (i := 0) (oi := _) (v := ?_) rfl (by kernel_rfl) (by kernel_rfl) (by kernel_rfl) (by kernel_rfl) (fun _ _ _ h => h) (Or.inl ⟨by rfl, ?_⟩) hS0 ?_
    rotate_left 1
    · (intro w hSw; (try dsimp only at hSw); go_simp; (try with_reducible rfl))
    try simp only [Act.put, List.setIfInBounds_toArray, List.set_cons_zero, List.set_cons_succ]
    refine wpAnyX_take (i := 1) (oi := _) (v := ?_) rfl (by kernel_rfl) (by kernel_rfl) (by kernel_rfl) (by kernel_rfl) (fun _ _ _ h => h) (Or.inl ⟨by rfl, ?_⟩) hS0 ?_
    rotate_left 1
    · (intro w hSw; (try dsimp only at hSw); go_simp; (try with_reducible rfl))
    try simp only [Act.put, List.setIfInBounds_toArray, List.set_cons_zero, List.set_cons_succ]
    refine wpAnyX_take (i := 2) (oi := _) (v := ?_) rfl (by kernel_rfl) (by kernel_rfl) (by kernel_rfl) (by kernel_rfl) (fun _ _ _ h => h) (Or.inl ⟨by rfl, ?_⟩) hS0 ?_
    rotate_left 1
    · (intro w hSw; (try dsimp only at hSw); go_simp; (try with_reducible rfl))
    try simp only [Act.put, List.setIfInBounds_toArray, List.set_cons_zero, List.set_cons_succ]
    refine wpAnyX_take (i := 3) (oi := _) (v := ?_) rfl (by kernel_rfl) (by kernel_rfl) (by kernel_rfl) (by kernel_rfl) (fun _ _ _ h => h) (Or.inl ⟨by rfl, ?_⟩) hS0 ?_
    rotate_left 1
    · (intro w hSw; (try dsimp only at hSw); go_simp; (try with_reducible rfl))
    try simp only [Act.put, List.setIfInBounds_toArray, List.set_cons_zero, List.set_cons_succ]
    refine wpAnyX_take (i := 4) (oi := _) (v := ?_) rfl (by kernel_rfl) (by kernel_rfl) (by kernel_rfl) (by kernel_rfl) (fun _ _ _ h => h) (Or.inl ⟨by rfl, ?_⟩) hS0 ?_
    rotate_left 1
    · (intro w hSw; (try dsimp only at hSw); go_simp; (try with_reducible rfl))
    try simp only [Act.put, List.setIfInBounds_toArray, List.set_cons_zero, List.set_cons_succ]
    refine wpAnyX_take (i := 5) (oi := _) (v := ?_) rfl (by kernel_rfl) (by kernel_rfl) (by kernel_rfl) (by kernel_rfl) (fun _ _ _ h => h) (Or.inl ⟨by rfl, ?_⟩) hS0 ?_
    rotate_left 1
    · (intro w hSw; (try dsimp only at hSw); go_simp; (try with_reducible rfl))
    try simp only [Act.put, List.setIfInBounds_toArray, List.set_cons_zero, List.set_cons_succ]
    refine wpAnyX_take (i := 6) (oi := _) (v := ?_) rfl (by kernel_rfl) (by kernel_rfl) (by kernel_rfl) (by kernel_rfl) (fun _ _ _ h => h) (Or.inl ⟨by rfl, ?_⟩) hS0 ?_
    rotate_left 1
    · (intro w hSw; (try dsimp only at hSw); go_simp; (try with_reducible rfl))
    try simp only [Act.put, List.setIfInBounds_toArray, List.set_cons_zero, List.set_cons_succ]
    refine wpAnyX_take (i := 7) (oi := _) (v := ?_) rfl (by kernel_rfl) (by kernel_rfl) (by kernel_rfl) (by kernel_rfl) (fun _ _ _ h => h) (Or.inl ⟨by rfl, ?_⟩) hS0 ?_
    rotate_left 1
    · (intro w hSw; (try dsimp only at hSw); go_simp; (try with_reducible rfl))
    try simp only [Act.put, List.setIfInBounds_toArray, List.set_cons_zero, List.set_cons_succ]
    refine wpAnyX_take (i := 8) (oi := _) (v := ?_) rfl (by kernel_rfl) (by kernel_rfl) (by kernel_rfl) (by kernel_rfl) (fun _ _ _ h => h) (Or.inl ⟨by rfl, ?_⟩) hS0 ?_
    rotate_left 1
    · (intro w hSw; (try dsimp only at hSw); go_simp; (try with_reducible rfl))
    try simp only [Act.put, List.setIfInBounds_toArray, List.set_cons_zero, List.set_cons_succ]
    refine wpAnyX_take (i := 9) (oi := _) (v := ?_) rfl (by kernel_rfl) (by kernel_rfl) (by kernel_rfl) (by kernel_rfl) (fun _ _ _ h => h) (Or.inl ⟨by rfl, ?_⟩) hS0 ?_
    rotate_left 1
    · (intro w hSw; (try dsimp only at hSw); go_simp; (try with_reducible rfl))
    try simp only [Act.put, List.setIfInBounds_toArray, List.set_cons_zero, List.set_cons_succ]
    refine wpAnyX_two (i := 10) (j := 11) (oi := _) (oj := _) rfl rfl (by kernel_rfl) (fun K hK => ?_) (fun K hK => ?_)
    · go_simp
      refine hK.out _ _ (fun _ => ?_) (fun hS1 => ?_)
      · first | exact ⟨kclAl (hS0.1), kclAl (hS0.2.1), kclAl (hS0.2.2)⟩ | exact ⟨kclAld (hS0.1), kclAld (hS0.2.1), kclAld (hS0.2.2)⟩
      clear hK K
      have hS1 := hS1 (by decide)
      try simp only [Act.put, List.setIfInBounds_toArray, List.set_cons_zero, List.set_cons_succ]
      refine wpAnyX_one (i := 11) (o := _) rfl (by kernel_rfl) (fun K hK => ?_)
      go_simp
      refine hK.out _ _ (fun _ => ?_) (fun hS2 => ?_)
      · first | exact ⟨kclAl (hS1.1), kclAl (hS1.2.1), kclAl (hS1.2.2)⟩ | exact ⟨kclAld (hS1.1), kclAld (hS1.2.1), kclAld (hS1.2.2)⟩
      clear hK K
      have hS2 := hS2 (by decide)
      try simp only [Act.put, List.setIfInBounds_toArray, List.set_cons_zero, List.set_cons_succ]
      refine wpAnyX_one (i := 12) (o := _) rfl (by kernel_rfl) (fun K hK => ?_)
      go_simp
      refine hK.out _ _ (fun _ => ?_) (fun hS3 => ?_)
      · exact ⟨kclAld (kclAld ycg0), kclAld (kclAld ycg1), kclAld (kclAld ycg2)⟩
      clear hK K
      have hS3 := hS3 (by decide)
      try simp only [Act.put, List.setIfInBounds_toArray, List.set_cons_zero, List.set_cons_succ]
      refine wpAnyX_one (i := 13) (o := _) rfl (by kernel_rfl) (fun K hK => ?_)
      go_simp
      refine hK.out _ _ (fun _ => ?_) (fun hS4 => ?_)
      · exact ⟨kclAld (kclAld ycg0), kclAld (kclAld ycg1), kclAld (kclAld ycg2)⟩
      clear hK K
      have hS4 := hS4 (by decide)
      try simp only [Act.put, List.setIfInBounds_toArray, List.set_cons_zero, List.set_cons_succ]
      refine wpAnyX_done (by kernel_rfl) ?_ _
      go_wp2_with (fail)
      go_meet
      have R0 := Yg.out
      have R1 := Yt.out
      have R2 := Y5.out
      have R3 := HYX.out
      have R4 := HYZ.out
      refine ⟨W.heap.size, W.heap.size + 1, rfl, rfl, ?_, ?_, ?_, ?_, ?_, ?_, ?_, by omega, by omega, by omega, ?_⟩
      · show Bb _ _ _ _; (try refine Bb.drew ?_); exact (Bb.new rfl).alloc _
      · show Bb _ _ _ _; (try refine Bb.drew ?_); exact Bb.new (by simp)
      · show Bb _ _ _ _; (repeat' (first | (with_reducible assumption) | (with_reducible refine Bb.alloc ?_ _) | (with_reducible refine Bb.drew ?_) | (with_reducible refine Bb.drewN ?_ _) | (with_reducible refine Bb.mono ?_ (by assumption)) | (with_reducible refine Bb.far ?_ (by (try simp only [World.size_alloc, World.size_drew]); omega)) | (with_reducible refine Bb.set ?_ rfl) | (with_reducible refine Bb.grown ?_ (by assumption) (by assumption))))
      · show Bb _ _ _ _; (repeat' (first | (with_reducible assumption) | (with_reducible refine Bb.alloc ?_ _) | (with_reducible refine Bb.drew ?_) | (with_reducible refine Bb.drewN ?_ _) | (with_reducible refine Bb.mono ?_ (by assumption)) | (with_reducible refine Bb.far ?_ (by (try simp only [World.size_alloc, World.size_drew]); omega)) | (with_reducible refine Bb.set ?_ rfl) | (with_reducible refine Bb.grown ?_ (by assumption) (by assumption))))
      · show Bb _ _ _ _; (repeat' (first | (with_reducible assumption) | (with_reducible refine Bb.alloc ?_ _) | (with_reducible refine Bb.drew ?_) | (with_reducible refine Bb.drewN ?_ _) | (with_reducible refine Bb.mono ?_ (by assumption)) | (with_reducible refine Bb.far ?_ (by (try simp only [World.size_alloc, World.size_drew]); omega)) | (with_reducible refine Bb.set ?_ rfl) | (with_reducible refine Bb.grown ?_ (by assumption) (by assumption))))
      · show Bs _ _ _ _ _; (repeat (first | (with_reducible assumption) | (with_reducible refine Bs.drew ?_) | (with_reducible refine Bs.alloc ?_ _)))
      · show Bs _ _ _ _ _; (repeat (first | (with_reducible assumption) | (with_reducible refine Bs.drew ?_) | (with_reducible refine Bs.alloc ?_ _)))
      · (repeat' (first | (with_reducible exact Below.refl _ _) | (with_reducible assumption) | (with_reducible refine Below.alloc ?_ ?_ _) | (with_reducible refine Below.drew ?_) | (with_reducible refine bdN ?_ _) | (with_reducible refine Below.setCell ?_ ?_ _) | (with_reducible refine chn ?_ (by assumption) ?_) | omega | (simp; done) | (simp; omega)))
    · go_simp
      refine hK.out _ _ (fun _ => ?_) (fun hS1 => ?_)
      · first | exact ⟨kclAl (hS0.1), kclAl (hS0.2.1), kclAl (hS0.2.2)⟩ | exact ⟨kclAld (hS0.1), kclAld (hS0.2.1), kclAld (hS0.2.2)⟩
      clear hK K
      have hS1 := hS1 (by decide)
      try simp only [Act.put, List.setIfInBounds_toArray, List.set_cons_zero, List.set_cons_succ]
      refine wpAnyX_one (i := 10) (o := _) rfl (by kernel_rfl) (fun K hK => ?_)
      go_simp
      refine hK.out _ _ (fun _ => ?_) (fun hS2 => ?_)
      · first | exact ⟨kclAl (hS1.1), kclAl (hS1.2.1), kclAl (hS1.2.2)⟩ | exact ⟨kclAld (hS1.1), kclAld (hS1.2.1), kclAld (hS1.2.2)⟩
      clear hK K
      have hS2 := hS2 (by decide)
      try simp only [Act.put, List.setIfInBounds_toArray, List.set_cons_zero, List.set_cons_succ]
      refine wpAnyX_one (i := 12) (o := _) rfl (by kernel_rfl) (fun K hK => ?_)
      go_simp
      refine hK.out _ _ (fun _ => ?_) (fun hS3 => ?_)
      · exact ⟨kclAld (kclAld ycg0), kclAld (kclAld ycg1), kclAld (kclAld ycg2)⟩
      clear hK K
      have hS3 := hS3 (by decide)
      try simp only [Act.put, List.setIfInBounds_toArray, List.set_cons_zero, List.set_cons_succ]
      refine wpAnyX_one (i := 13) (o := _) rfl (by kernel_rfl) (fun K hK => ?_)
      go_simp
      refine hK.out _ _ (fun _ => ?_) (fun hS4 => ?_)
      · exact ⟨kclAld (kclAld ycg0), kclAld (kclAld ycg1), kclAld (kclAld ycg2)⟩
      clear hK K
      have hS4 := hS4 (by decide)
      try simp only [Act.put, List.setIfInBounds_toArray, List.set_cons_zero, List.set_cons_succ]
      refine wpAnyX_done (by kernel_rfl) ?_ _
      go_wp2_with (fail)
      go_meet
      have R0 := Yg.out
      have R1 := Yt.out
      have R2 := Y5.out
      have R3 := HYX.out
      have R4 := HYZ.out
      refine ⟨W.heap.size + 1, W.heap.size, rfl, rfl, ?_, ?_, ?_, ?_, ?_, ?_, ?_, by omega, by omega, by omega, ?_⟩
      · show Bb _ _ _ _; (try refine Bb.drew ?_); exact Bb.new (by simp)
      · show Bb _ _ _ _; (try refine Bb.drew ?_); exact (Bb.new rfl).alloc _
      · show Bb _ _ _ _; (repeat' (first | (with_reducible assumption) | (with_reducible refine Bb.alloc ?_ _) | (with_reducible refine Bb.drew ?_) | (with_reducible refine Bb.drewN ?_ _) | (with_reducible refine Bb.mono ?_ (by assumption)) | (with_reducible refine Bb.far ?_ (by (try simp only [World.size_alloc, World.size_drew]); omega)) | (with_reducible refine Bb.set ?_ rfl) | (with_reducible refine Bb.grown ?_ (by assumption) (by assumption))))
      · show Bb _ _ _ _; (repeat' (first | (with_reducible assumption) | (with_reducible refine Bb.alloc ?_ _) | (with_reducible refine Bb.drew ?_) | (with_reducible refine Bb.drewN ?_ _) | (with_reducible refine Bb.mono ?_ (by assumption)) | (with_reducible refine Bb.far ?_ (by (try simp only [World.size_alloc, World.size_drew]); omega)) | (with_reducible refine Bb.set ?_ rfl) | (with_reducible refine Bb.grown ?_ (by assumption) (by assumption))))
      · show Bb _ _ _ _; (repeat' (first | (with_reducible assumption) | (with_reducible refine Bb.alloc ?_ _) | (with_reducible refine Bb.drew ?_) | (with_reducible refine Bb.drewN ?_ _) | (with_reducible refine Bb.mono ?_ (by assumption)) | (with_reducible refine Bb.far ?_ (by (try simp only [World.size_alloc, World.size_drew]); omega)) | (with_reducible refine Bb.set ?_ rfl) | (with_reducible refine Bb.grown ?_ (by assumption) (by assumption))))
      · show Bs _ _ _ _ _; (repeat (first | (with_reducible assumption) | (with_reducible refine Bs.drew ?_) | (with_reducible refine Bs.alloc ?_ _)))
      · show Bs _ _ _ _ _; (repeat (first | (with_reducible assumption) | (with_reducible refine Bs.drew ?_) | (with_reducible refine Bs.alloc ?_ _)))
      · (repeat' (first | (with_reducible exact Below.refl _ _) | (with_reducible assumption) | (with_reducible refine Below.alloc ?_ ?_ _) | (with_reducible refine Below.drew ?_) | (with_reducible refine bdN ?_ _) | (with_reducible refine Below.setCell ?_ ?_ _) | (with_reducible refine chn ?_ (by assumption) ?_) | omega | (simp; done) | (simp; omega)))
  case rest =>
    obtain ⟨p6, p7, rfl, rfl, Y6, Y7, Zg, Zt, Z5, HZX, HZZ, lp6, lp7, n67, hBc⟩ := hcut
    clear cg0 cg1 cg2 Yg Yt Y5 HYX HYZ hBW
    obtain ⟨W2, rfl⟩ : ∃ W2, W2 = wc := ⟨_, rfl⟩
    have hB2 := hBc.size
    have l6 := Y6.out.lt
    have l7 := Y7.out.lt
    have cg0 := Zg.out.c 0 rfl
    have cg1 := Zg.out.c 1 rfl
    have cg2 := Zg.out.c 2 rfl
    go_wp2_with (fail)
    go_cut [8, 9] (fun s8 s9 wx => ∃ p8 p9 : Nat, s8 = .pointer (some ⟨p8, 0, none⟩) ∧ s9 = .pointer (some ⟨p9, 0, none⟩) ∧ Hid (Bb wx (p8) 43 #[.int .i64 0, .int .i64 ((pw b : Nat) : Int), .int .i64 0]) ∧ Hid (Bb wx (p9) 43 #[.int .i64 0, .int .i64 0, .int .i64 ((pw b : Nat) : Int)]) ∧ Hid (Bb wx (w.heap.size) 116 #[.int .i64 (k : Int), .int .i64 (a : Int), .int .i64 (b : Int)]) ∧ Hid (Bb wx (w.heap.size + 1) 53 #[.int .i64 0, .slice none 0 0, .slice none 0 0]) ∧ Hid (Bb wx (w1.heap.size) 53 #[.int .i64 (n : Int), .slice (some ⟨gx, 0, none⟩) n cx, .slice (some ⟨gz, 0, none⟩) n cz]) ∧ Hid (Bb wx (p6) 43 #[.int .i64 0, .int .i64 ((pw a : Nat) : Int), .int .i64 0]) ∧ Hid (Bb wx (p7) 43 #[.int .i64 0, .int .i64 0, .int .i64 ((pw a : Nat) : Int)]) ∧ Hid (Bs pauliE wx gx 43 (tab n genX)) ∧ Hid (Bs pauliE wx gz 43 (tab n genZ)) ∧ W2.heap.size ≤ p8 ∧ W2.heap.size ≤ p9 ∧ p8 ≠ p9 ∧ Below w.heap.size w wx)
    case first =>
      have ycg0 : W2.drew.cell? ⟨w.heap.size, 0, none⟩ = some (.int .i64 (k : Int)) := cg0
      have ycg1 : W2.drew.cell? ⟨w.heap.size, 1, none⟩ = some (.int .i64 (a : Int)) := cg1
      have ycg2 : W2.drew.cell? ⟨w.heap.size, 2, none⟩ = some (.int .i64 (b : Int)) := cg2
      refine wp_region_x (fun w' => w'.cell? ⟨w.heap.size, 0, none⟩ = some (.int .i64 (k : Int)) ∧ w'.cell? ⟨w.heap.size, 1, none⟩ = some (.int .i64 (a : Int)) ∧ w'.cell? ⟨w.heap.size, 2, none⟩ = some (.int .i64 (b : Int))) 1000 (by kernel_rfl) ⟨ycg0, ycg1, ycg2⟩ (fun hS0 => ?_)
      refine wpAnyX_take (i := 0) (oi := _) (v := ?_) rfl (by kernel_rfl) (by kernel_rfl) (by kernel_rfl) (by kernel_rfl) (fun _ _ _ h => h) (Or.inl ⟨by rfl, ?_⟩) hS0 ?_
      rotate_left 1
      · (intro w hSw; (try dsimp only at hSw); go_simp; (try with_reducible rfl))
      try simp only [Act.put, List.setIfInBounds_toArray, List.set_cons_zero, List.set_cons_succ]
      refine wpAnyX_take (i := 1) (oi := _) (v := ?_) rfl (by kernel_rfl) (by kernel_rfl) (by kernel_rfl) (by kernel_rfl) (fun _ _ _ h => h) (Or.inl ⟨by rfl, ?_⟩) hS0 ?_
      rotate_left 1
      · (intro w hSw; (try dsimp only at hSw); go_simp; (try with_reducible rfl))
      try simp only [Act.put, List.setIfInBounds_toArray, List.set_cons_zero, List.set_cons_succ]
      refine wpAnyX_take (i := 2) (oi := _) (v := ?_) rfl (by kernel_rfl) (by kernel_rfl) (by kernel_rfl) (by kernel_rfl) (fun _ _ _ h => h) (Or.inl ⟨by rfl, ?_⟩) hS0 ?_
      rotate_left 1
      · (intro w hSw; (try dsimp only at hSw); go_simp; (try with_reducible rfl))
      try simp only [Act.put, List.setIfInBounds_toArray, List.set_cons_zero, List.set_cons_succ]
      refine wpAnyX_take (i := 3) (oi := _) (v := ?_) rfl (by kernel_rfl) (by kernel_rfl) (by kernel_rfl) (by kernel_rfl) (fun _ _ _ h => h) (Or.inl ⟨by rfl, ?_⟩) hS0 ?_
      rotate_left 1
      · (intro w hSw; (try dsimp only at hSw); go_simp; (try with_reducible rfl))
      try simp only [Act.put, List.setIfInBounds_toArray, List.set_cons_zero, List.set_cons_succ]
      refine wpAnyX_take (i := 4) (oi := _) (v := ?_) rfl (by kernel_rfl) (by kernel_rfl) (by kernel_rfl) (by kernel_rfl) (fun _ _ _ h => h) (Or.inl ⟨by rfl, ?_⟩) hS0 ?_
      rotate_left 1
      · (intro w hSw; (try dsimp only at hSw); go_simp; (try with_reducible rfl))
      try simp only [Act.put, List.setIfInBounds_toArray, List.set_cons_zero, List.set_cons_succ]
      refine wpAnyX_take (i := 5) (oi := _) (v := ?_) rfl (by kernel_rfl) (by kernel_rfl) (by kernel_rfl) (by kernel_rfl) (fun _ _ _ h => h) (Or.inl ⟨by rfl, ?_⟩) hS0 ?_
      rotate_left 1
      · (intro w hSw; (try dsimp only at hSw); go_simp; (try with_reducible rfl))
      try simp only [Act.put, List.setIfInBounds_toArray, List.set_cons_zero, List.set_cons_succ]
      refine wpAnyX_take (i := 6) (oi := _) (v := ?_) rfl (by kernel_rfl) (by kernel_rfl) (by kernel_rfl) (by kernel_rfl) (fun _ _ _ h => h) (Or.inl ⟨by rfl, ?_⟩) hS0 ?_
      rotate_left 1
      · (intro w hSw; (try dsimp only at hSw); go_simp; (try with_reducible rfl))
      try simp only [Act.put, List.setIfInBounds_toArray, List.set_cons_zero, List.set_cons_succ]
      refine wpAnyX_take (i := 7) (oi := _) (v := ?_) rfl (by kernel_rfl) (by kernel_rfl) (by kernel_rfl) (by kernel_rfl) (fun _ _ _ h => h) (Or.inl ⟨by rfl, ?_⟩) hS0 ?_
      rotate_left 1
      · (intro w hSw; (try dsimp only at hSw); go_simp; (try with_reducible rfl))
      try simp only [Act.put, List.setIfInBounds_toArray, List.set_cons_zero, List.set_cons_succ]
      refine wpAnyX_take (i := 8) (oi := _) (v := ?_) rfl (by kernel_rfl) (by kernel_rfl) (by kernel_rfl) (by kernel_rfl) (fun _ _ _ h => h) (Or.inl ⟨by rfl, ?_⟩) hS0 ?_
      rotate_left 1
      · (intro w hSw; (try dsimp only at hSw); go_simp; (try with_reducible rfl))
      try simp only [Act.put, List.setIfInBounds_toArray, List.set_cons_zero, List.set_cons_succ]
      refine wpAnyX_take (i := 9) (oi := _) (v := ?_) rfl (by kernel_rfl) (by kernel_rfl) (by kernel_rfl) (by kernel_rfl) (fun _ _ _ h => h) (Or.inl ⟨by rfl, ?_⟩) hS0 ?_
      rotate_left 1
      · (intro w hSw; (try dsimp only at hSw); go_simp; (try with_reducible rfl))
      try simp only [Act.put, List.setIfInBounds_toArray, List.set_cons_zero, List.set_cons_succ]
      refine wpAnyX_two (i := 10) (j := 11) (oi := _) (oj := _) rfl rfl (by kernel_rfl) (fun K hK => ?_) (fun K hK => ?_)
      · go_simp
        refine hK.out _ _ (fun _ => ?_) (fun hS1 => ?_)
        · first | exact ⟨kclAl (hS0.1), kclAl (hS0.2.1), kclAl (hS0.2.2)⟩ | exact ⟨kclAld (hS0.1), kclAld (hS0.2.1), kclAld (hS0.2.2)⟩
        clear hK K
        have hS1 := hS1 (by decide)
        try simp only [Act.put, List.setIfInBounds_toArray, List.set_cons_zero, List.set_cons_succ]
        refine wpAnyX_one (i := 11) (o := _) rfl (by kernel_rfl) (fun K hK => ?_)
        go_simp
        refine hK.out _ _ (fun _ => ?_) (fun hS2 => ?_)
        · first | exact ⟨kclAl (hS1.1), kclAl (hS1.2.1), kclAl (hS1.2.2)⟩ | exact ⟨kclAld (hS1.1), kclAld (hS1.2.1), kclAld (hS1.2.2)⟩
        clear hK K
        have hS2 := hS2 (by decide)
        try simp only [Act.put, List.setIfInBounds_toArray, List.set_cons_zero, List.set_cons_succ]
        refine wpAnyX_one (i := 12) (o := _) rfl (by kernel_rfl) (fun K hK => ?_)
        go_simp
        refine hK.out _ _ (fun _ => ?_) (fun hS3 => ?_)
        · exact ⟨kclAld (kclAld ycg0), kclAld (kclAld ycg1), kclAld (kclAld ycg2)⟩
        clear hK K
        have hS3 := hS3 (by decide)
        try simp only [Act.put, List.setIfInBounds_toArray, List.set_cons_zero, List.set_cons_succ]
        refine wpAnyX_one (i := 13) (o := _) rfl (by kernel_rfl) (fun K hK => ?_)
        go_simp
        refine hK.out _ _ (fun _ => ?_) (fun hS4 => ?_)
        · exact ⟨kclAld (kclAld ycg0), kclAld (kclAld ycg1), kclAld (kclAld ycg2)⟩
        clear hK K
        have hS4 := hS4 (by decide)
        try simp only [Act.put, List.setIfInBounds_toArray, List.set_cons_zero, List.set_cons_succ]
        refine wpAnyX_done (by kernel_rfl) ?_ _
        go_wp2_with (fail)
        go_meet
        have R0 := Zg.out
        have R1 := Zt.out
        have R2 := Z5.out
        have R3 := Y6.out
        have R4 := Y7.out
        have R5 := HZX.out
        have R6 := HZZ.out
        refine ⟨W2.heap.size, W2.heap.size + 1, rfl, rfl, ?_, ?_, ?_, ?_, ?_, ?_, ?_, ?_, ?_, by omega, by omega, by omega, ?_⟩
        · show Bb _ _ _ _; (try refine Bb.drew ?_); exact (Bb.new rfl).alloc _
        · show Bb _ _ _ _; (try refine Bb.drew ?_); exact Bb.new (by simp)
        · show Bb _ _ _ _; (repeat' (first | (with_reducible assumption) | (with_reducible refine Bb.alloc ?_ _) | (with_reducible refine Bb.drew ?_) | (with_reducible refine Bb.drewN ?_ _) | (with_reducible refine Bb.mono ?_ (by assumption)) | (with_reducible refine Bb.far ?_ (by (try simp only [World.size_alloc, World.size_drew]); omega)) | (with_reducible refine Bb.set ?_ rfl) | (with_reducible refine Bb.grown ?_ (by assumption) (by assumption))))
        · show Bb _ _ _ _; (repeat' (first | (with_reducible assumption) | (with_reducible refine Bb.alloc ?_ _) | (with_reducible refine Bb.drew ?_) | (with_reducible refine Bb.drewN ?_ _) | (with_reducible refine Bb.mono ?_ (by assumption)) | (with_reducible refine Bb.far ?_ (by (try simp only [World.size_alloc, World.size_drew]); omega)) | (with_reducible refine Bb.set ?_ rfl) | (with_reducible refine Bb.grown ?_ (by assumption) (by assumption))))
        · show Bb _ _ _ _; (repeat' (first | (with_reducible assumption) | (with_reducible refine Bb.alloc ?_ _) | (with_reducible refine Bb.drew ?_) | (with_reducible refine Bb.drewN ?_ _) | (with_reducible refine Bb.mono ?_ (by assumption)) | (with_reducible refine Bb.far ?_ (by (try simp only [World.size_alloc, World.size_drew]); omega)) | (with_reducible refine Bb.set ?_ rfl) | (with_reducible refine Bb.grown ?_ (by assumption) (by assumption))))
        · show Bb _ _ _ _; (repeat' (first | (with_reducible assumption) | (with_reducible refine Bb.alloc ?_ _) | (with_reducible refine Bb.drew ?_) | (with_reducible refine Bb.drewN ?_ _) | (with_reducible refine Bb.mono ?_ (by assumption)) | (with_reducible refine Bb.far ?_ (by (try simp only [World.size_alloc, World.size_drew]); omega)) | (with_reducible refine Bb.set ?_ rfl) | (with_reducible refine Bb.grown ?_ (by assumption) (by assumption))))
        · show Bb _ _ _ _; (repeat' (first | (with_reducible assumption) | (with_reducible refine Bb.alloc ?_ _) | (with_reducible refine Bb.drew ?_) | (with_reducible refine Bb.drewN ?_ _) | (with_reducible refine Bb.mono ?_ (by assumption)) | (with_reducible refine Bb.far ?_ (by (try simp only [World.size_alloc, World.size_drew]); omega)) | (with_reducible refine Bb.set ?_ rfl) | (with_reducible refine Bb.grown ?_ (by assumption) (by assumption))))
        · show Bs _ _ _ _ _; (repeat (first | (with_reducible assumption) | (with_reducible refine Bs.drew ?_) | (with_reducible refine Bs.alloc ?_ _)))
        · show Bs _ _ _ _ _; (repeat (first | (with_reducible assumption) | (with_reducible refine Bs.drew ?_) | (with_reducible refine Bs.alloc ?_ _)))
        · (repeat' (first | (with_reducible exact Below.refl _ _) | (with_reducible assumption) | (with_reducible refine Below.alloc ?_ ?_ _) | (with_reducible refine Below.drew ?_) | (with_reducible refine bdN ?_ _) | (with_reducible refine Below.setCell ?_ ?_ _) | (with_reducible refine chn ?_ (by assumption) ?_) | omega | (simp; done) | (simp; omega)))
      · go_simp
        refine hK.out _ _ (fun _ => ?_) (fun hS1 => ?_)
        · first | exact ⟨kclAl (hS0.1), kclAl (hS0.2.1), kclAl (hS0.2.2)⟩ | exact ⟨kclAld (hS0.1), kclAld (hS0.2.1), kclAld (hS0.2.2)⟩
        clear hK K
        have hS1 := hS1 (by decide)
        try simp only [Act.put, List.setIfInBounds_toArray, List.set_cons_zero, List.set_cons_succ]
        refine wpAnyX_one (i := 10) (o := _) rfl (by kernel_rfl) (fun K hK => ?_)
        go_simp
        refine hK.out _ _ (fun _ => ?_) (fun hS2 => ?_)
        · first | exact ⟨kclAl (hS1.1), kclAl (hS1.2.1), kclAl (hS1.2.2)⟩ | exact ⟨kclAld (hS1.1), kclAld (hS1.2.1), kclAld (hS1.2.2)⟩
        clear hK K
        have hS2 := hS2 (by decide)
        try simp only [Act.put, List.setIfInBounds_toArray, List.set_cons_zero, List.set_cons_succ]
        refine wpAnyX_one (i := 12) (o := _) rfl (by kernel_rfl) (fun K hK => ?_)
        go_simp
        refine hK.out _ _ (fun _ => ?_) (fun hS3 => ?_)
        · exact ⟨kclAld (kclAld ycg0), kclAld (kclAld ycg1), kclAld (kclAld ycg2)⟩
        clear hK K
        have hS3 := hS3 (by decide)
        try simp only [Act.put, List.setIfInBounds_toArray, List.set_cons_zero, List.set_cons_succ]
        refine wpAnyX_one (i := 13) (o := _) rfl (by kernel_rfl) (fun K hK => ?_)
        go_simp
        refine hK.out _ _ (fun _ => ?_) (fun hS4 => ?_)
        · exact ⟨kclAld (kclAld ycg0), kclAld (kclAld ycg1), kclAld (kclAld ycg2)⟩
        clear hK K
        have hS4 := hS4 (by decide)
        try simp only [Act.put, List.setIfInBounds_toArray, List.set_cons_zero, List.set_cons_succ]
        refine wpAnyX_done (by kernel_rfl) ?_ _
        go_wp2_with (fail)
        go_meet
        have R0 := Zg.out
        have R1 := Zt.out
        have R2 := Z5.out
        have R3 := Y6.out
        have R4 := Y7.out
        have R5 := HZX.out
        have R6 := HZZ.out
        refine ⟨W2.heap.size + 1, W2.heap.size, rfl, rfl, ?_, ?_, ?_, ?_, ?_, ?_, ?_, ?_, ?_, by omega, by omega, by omega, ?_⟩
        · show Bb _ _ _ _; (try refine Bb.drew ?_); exact Bb.new (by simp)
        · show Bb _ _ _ _; (try refine Bb.drew ?_); exact (Bb.new rfl).alloc _
        · show Bb _ _ _ _; (repeat' (first | (with_reducible assumption) | (with_reducible refine Bb.alloc ?_ _) | (with_reducible refine Bb.drew ?_) | (with_reducible refine Bb.drewN ?_ _) | (with_reducible refine Bb.mono ?_ (by assumption)) | (with_reducible refine Bb.far ?_ (by (try simp only [World.size_alloc, World.size_drew]); omega)) | (with_reducible refine Bb.set ?_ rfl) | (with_reducible refine Bb.grown ?_ (by assumption) (by assumption))))
        · show Bb _ _ _ _; (repeat' (first | (with_reducible assumption) | (with_reducible refine Bb.alloc ?_ _) | (with_reducible refine Bb.drew ?_) | (with_reducible refine Bb.drewN ?_ _) | (with_reducible refine Bb.mono ?_ (by assumption)) | (with_reducible refine Bb.far ?_ (by (try simp only [World.size_alloc, World.size_drew]); omega)) | (with_reducible refine Bb.set ?_ rfl) | (with_reducible refine Bb.grown ?_ (by assumption) (by assumption))))
        · show Bb _ _ _ _; (repeat' (first | (with_reducible assumption) | (with_reducible refine Bb.alloc ?_ _) | (with_reducible refine Bb.drew ?_) | (with_reducible refine Bb.drewN ?_ _) | (with_reducible refine Bb.mono ?_ (by assumption)) | (with_reducible refine Bb.far ?_ (by (try simp only [World.size_alloc, World.size_drew]); omega)) | (with_reducible refine Bb.set ?_ rfl) | (with_reducible refine Bb.grown ?_ (by assumption) (by assumption))))
        · show Bb _ _ _ _; (repeat' (first | (with_reducible assumption) | (with_reducible refine Bb.alloc ?_ _) | (with_reducible refine Bb.drew ?_) | (with_reducible refine Bb.drewN ?_ _) | (with_reducible refine Bb.mono ?_ (by assumption)) | (with_reducible refine Bb.far ?_ (by (try simp only [World.size_alloc, World.size_drew]); omega)) | (with_reducible refine Bb.set ?_ rfl) | (with_reducible refine Bb.grown ?_ (by assumption) (by assumption))))
        · show Bb _ _ _ _; (repeat' (first | (with_reducible assumption) | (with_reducible refine Bb.alloc ?_ _) | (with_reducible refine Bb.drew ?_) | (with_reducible refine Bb.drewN ?_ _) | (with_reducible refine Bb.mono ?_ (by assumption)) | (with_reducible refine Bb.far ?_ (by (try simp only [World.size_alloc, World.size_drew]); omega)) | (with_reducible refine Bb.set ?_ rfl) | (with_reducible refine Bb.grown ?_ (by assumption) (by assumption))))
        · show Bs _ _ _ _ _; (repeat (first | (with_reducible assumption) | (with_reducible refine Bs.drew ?_) | (with_reducible refine Bs.alloc ?_ _)))
        · show Bs _ _ _ _ _; (repeat (first | (with_reducible assumption) | (with_reducible refine Bs.drew ?_) | (with_reducible refine Bs.alloc ?_ _)))
        · (repeat' (first | (with_reducible exact Below.refl _ _) | (with_reducible assumption) | (with_reducible refine Below.alloc ?_ ?_ _) | (with_reducible refine Below.drew ?_) | (with_reducible refine bdN ?_ _) | (with_reducible refine Below.setCell ?_ ?_ _) | (with_reducible refine chn ?_ (by assumption) ?_) | omega | (simp; done) | (simp; omega)))
    case rest =>
      obtain ⟨p8, p9, rfl, rfl, V8, V9, Vg, Vt, V5, V6, V7, HVX, HVZ, lp8, lp9, n89, hBd⟩ := hcut
      clear cg0 cg1 cg2 Zg Zt Z5 HZX HZZ Y6 Y7 hBc
      obtain ⟨W3, rfl⟩ : ∃ W3, W3 = wc := ⟨_, rfl⟩
      have hB3 := hBd.size
      have cg0 : W3.cell? ⟨w.heap.size, 0, none⟩ = some (.int .i64 (k : Int)) := Vg.out.c 0 rfl
      have cg1 : W3.cell? ⟨w.heap.size, 1, none⟩ = some (.int .i64 (a : Int)) := Vg.out.c 1 rfl
      have cg2 : W3.cell? ⟨w.heap.size, 2, none⟩ = some (.int .i64 (b : Int)) := Vg.out.c 2 rfl
      have ct0 : W3.cell? ⟨w.heap.size + 1, 0, none⟩ = some (.int .i64 0) := Vt.out.c 0 rfl
      have ct1 : W3.cell? ⟨w.heap.size + 1, 1, none⟩ = some (.slice none 0 0) := Vt.out.c 1 rfl
      have ct2 : W3.cell? ⟨w.heap.size + 1, 2, none⟩ = some (.slice none 0 0) := Vt.out.c 2 rfl
      have c50 : W3.cell? ⟨w1.heap.size, 0, none⟩ = some (.int .i64 (n : Int)) := V5.out.c 0 rfl
      have c51 : W3.cell? ⟨w1.heap.size, 1, none⟩ = some (.slice (some ⟨gx, 0, none⟩) n cx) := V5.out.c 1 rfl
      have c52 : W3.cell? ⟨w1.heap.size, 2, none⟩ = some (.slice (some ⟨gz, 0, none⟩) n cz) := V5.out.c 2 rfl
      have c60 : W3.cell? ⟨p6, 0, none⟩ = some (.int .i64 0) := V6.out.c 0 rfl
      have c61 : W3.cell? ⟨p6, 1, none⟩ = some (.int .i64 ((pw a : Nat) : Int)) := V6.out.c 1 rfl
      have c62 : W3.cell? ⟨p6, 2, none⟩ = some (.int .i64 0) := V6.out.c 2 rfl
      have c70 : W3.cell? ⟨p7, 0, none⟩ = some (.int .i64 0) := V7.out.c 0 rfl
      have c71 : W3.cell? ⟨p7, 1, none⟩ = some (.int .i64 0) := V7.out.c 1 rfl
      have c72 : W3.cell? ⟨p7, 2, none⟩ = some (.int .i64 ((pw a : Nat) : Int)) := V7.out.c 2 rfl
      have c80 : W3.cell? ⟨p8, 0, none⟩ = some (.int .i64 0) := V8.out.c 0 rfl
      have c81 : W3.cell? ⟨p8, 1, none⟩ = some (.int .i64 ((pw b : Nat) : Int)) := V8.out.c 1 rfl
      have c82 : W3.cell? ⟨p8, 2, none⟩ = some (.int .i64 0) := V8.out.c 2 rfl
      have c90 : W3.cell? ⟨p9, 0, none⟩ = some (.int .i64 0) := V9.out.c 0 rfl
      have c91 : W3.cell? ⟨p9, 1, none⟩ = some (.int .i64 0) := V9.out.c 1 rfl
      have c92 : W3.cell? ⟨p9, 2, none⟩ = some (.int .i64 ((pw b : Nat) : Int)) := V9.out.c 2 rfl
      have lg := Vg.out.lt
      have lt := Vt.out.lt
      have l5 := V5.out.lt
      have ll6 := V6.out.lt
      have ll7 := V7.out.lt
      have l8 := V8.out.lt
      have l9 := V9.out.lt
      have fx := HVX.out.fr
      have fz := HVZ.out.fr
      have lgx := HVX.out.lt
      have lgz := HVZ.out.lt
      obtain ⟨x0, x1, x2⟩ := Bs.atPauli (k := a) (x := genX a) HVX.out (tab_get ha)
      obtain ⟨z0, z1, z2⟩ := Bs.atPauli (k := a) (x := genZ a) HVZ.out (tab_get ha)
      have ft := Vt.out.f
      have hk := HK.out
      clear HK
      rcases hk with rfl | rfl | rfl | rfl | rfl | rfl | rfl | rfl | rfl | rfl
      · clear e1 e2 i1 Vg V5 hab c80 c81 c82 V8 l8 c90 c91 c92 V9 l9 cg2 e3 e4 i2
        go_upto_region 31 with (fail)
        (repeat (first | go_values | go_skip | go_guarded | go_step | go_upon))
        refine bodyPost_ret (v := tableauV n (some ⟨gx, 0, none⟩) n cx (some ⟨gz, 0, none⟩) n cz) (by first | (simp [results, Try.results139, go_sem, *]; done) | (simp (disch := (first | omega | (simp; done) | (simp; omega))) [results, Try.results139, go_sem, *]; done) | (simp only [results, Try.results139]; go_simp; done)) rfl ⟨gx, cx, gz, cz, rfl, ?_, ?_, ?_⟩
        · have R := HVX.out
          rw [show tab n (gtX 1 a b) = (tab n genX).set a (genZ a) from (tab_set (by simp [gtX]) (fun q h1 h2 => by simp [gtX, h2])).symm]; refine Bs.far ?_ (by show gx ≠ w.heap.size + 1; omega) _; refine Bs.far ?_ (by show gx ≠ w.heap.size + 1; omega) _; refine Bs.far ?_ (by show gx ≠ w.heap.size + 1; omega) _; refine Bs.far ?_ (by show gx ≠ gz; omega) _; refine Bs.far ?_ (by show gx ≠ gz; omega) _; refine Bs.far ?_ (by show gx ≠ gz; omega) _; refine Bs.stPauli (xs := (tab n genX)) (k := a) ?_ (genZ a) (by rw [tab_len]; exact ha); exact R
        · have R := HVZ.out
          rw [show tab n (gtZ 1 a b) = (tab n genZ).set a (genX a) from (tab_set (by simp [gtZ]) (fun q h1 h2 => by simp [gtZ, h2])).symm]; refine Bs.far ?_ (by show gz ≠ w.heap.size + 1; omega) _; refine Bs.far ?_ (by show gz ≠ w.heap.size + 1; omega) _; refine Bs.far ?_ (by show gz ≠ w.heap.size + 1; omega) _; refine Bs.stPauli (xs := (tab n genZ)) (k := a) ?_ (genX a) (by rw [tab_len]; exact ha); refine Bs.far ?_ (by show gz ≠ gx; omega) _; refine Bs.far ?_ (by show gz ≠ gx; omega) _; refine Bs.far ?_ (by show gz ≠ gx; omega) _; exact R
        · (repeat' (first | (with_reducible exact Below.refl _ _) | (with_reducible assumption) | (with_reducible refine Below.alloc ?_ ?_ _) | (with_reducible refine Below.drew ?_) | (with_reducible refine bdN ?_ _) | (with_reducible refine Below.setCell ?_ ?_ _) | (with_reducible refine chn ?_ (by assumption) ?_) | omega | (simp; done) | (simp; omega)))
      · clear e1 e2 i1 Vg V5 hab c60 c61 c62 V6 ll6 c70 c71 c72 V7 ll7 c80 c81 c82 V8 l8 c90 c91 c92 V9 l9 cg2 e3 e4 i2 fx x0 x1 x2
        go_upto_region 31 with (fail)
        (repeat (first | go_values | go_skip | go_guarded | go_step | go_upon))
        refine bodyPost_ret (v := tableauV n (some ⟨gx, 0, none⟩) n cx (some ⟨gz, 0, none⟩) n cz) (by first | (simp [results, Try.results139, go_sem, *]; done) | (simp (disch := (first | omega | (simp; done) | (simp; omega))) [results, Try.results139, go_sem, *]; done) | (simp only [results, Try.results139]; go_simp; done)) rfl ⟨gx, cx, gz, cz, rfl, ?_, ?_, ?_⟩
        · have R := HVX.out
          show Bs _ _ _ _ (tab n genX); refine Bs.far ?_ (by show gx ≠ w.heap.size + 1; omega) _; refine Bs.far ?_ (by show gx ≠ w.heap.size + 1; omega) _; refine Bs.far ?_ (by show gx ≠ w.heap.size + 1; omega) _; refine Bs.far ?_ (by show gx ≠ gz; omega) _; exact R
        · have R := HVZ.out
          rw [show tab n (gtZ 2 a b) = (tab n genZ).set a (pv 2 0 (2 ^ a)) from (tab_set (by simp [gtZ]) (fun q h1 h2 => by simp [gtZ, h2])).symm]; refine Bs.far ?_ (by show gz ≠ w.heap.size + 1; omega) _; refine Bs.far ?_ (by show gz ≠ w.heap.size + 1; omega) _; refine Bs.far ?_ (by show gz ≠ w.heap.size + 1; omega) _; refine Bs.set1 (E := pauliE) (i := 0) (x := genZ a) (y := pv 2 0 (2 ^ a)) ?_ (tab_get ha) (by decide) rfl (by rfl); exact R
        · (repeat' (first | (with_reducible exact Below.refl _ _) | (with_reducible assumption) | (with_reducible refine Below.alloc ?_ ?_ _) | (with_reducible refine Below.drew ?_) | (with_reducible refine bdN ?_ _) | (with_reducible refine Below.setCell ?_ ?_ _) | (with_reducible refine chn ?_ (by assumption) ?_) | omega | (simp; done) | (simp; omega)))
      · clear e1 e2 i1 Vg V5 hab c60 c61 c62 V6 ll6 c70 c71 c72 V7 ll7 c80 c81 c82 V8 l8 c90 c91 c92 V9 l9 cg2 e3 e4 i2
        go_upto_region 31 with (fail)
        (repeat (first | go_values | go_skip | go_guarded | go_step | go_upon))
        refine bodyPost_ret (v := tableauV n (some ⟨gx, 0, none⟩) n cx (some ⟨gz, 0, none⟩) n cz) (by first | (simp [results, Try.results139, go_sem, *]; done) | (simp (disch := (first | omega | (simp; done) | (simp; omega))) [results, Try.results139, go_sem, *]; done) | (simp only [results, Try.results139]; go_simp; done)) rfl ⟨gx, cx, gz, cz, rfl, ?_, ?_, ?_⟩
        · have R := HVX.out
          rw [show tab n (gtX 3 a b) = (tab n genX).set a (pv 2 (2 ^ a) 0) from (tab_set (by simp [gtX]) (fun q h1 h2 => by simp [gtX, h2])).symm]; refine Bs.far ?_ (by show gx ≠ w.heap.size + 1; omega) _; refine Bs.far ?_ (by show gx ≠ w.heap.size + 1; omega) _; refine Bs.far ?_ (by show gx ≠ w.heap.size + 1; omega) _; refine Bs.far ?_ (by show gx ≠ gz; omega) _; refine Bs.set1 (E := pauliE) (i := 0) (x := genX a) (y := pv 2 (2 ^ a) 0) ?_ (tab_get ha) (by decide) rfl (by rfl); exact R
        · have R := HVZ.out
          rw [show tab n (gtZ 3 a b) = (tab n genZ).set a (pv 2 0 (2 ^ a)) from (tab_set (by simp [gtZ]) (fun q h1 h2 => by simp [gtZ, h2])).symm]; refine Bs.far ?_ (by show gz ≠ w.heap.size + 1; omega) _; refine Bs.far ?_ (by show gz ≠ w.heap.size + 1; omega) _; refine Bs.far ?_ (by show gz ≠ w.heap.size + 1; omega) _; refine Bs.set1 (E := pauliE) (i := 0) (x := genZ a) (y := pv 2 0 (2 ^ a)) ?_ (tab_get ha) (by decide) rfl (by rfl); refine Bs.far ?_ (by show gz ≠ gx; omega) _; exact R
        · (repeat' (first | (with_reducible exact Below.refl _ _) | (with_reducible assumption) | (with_reducible refine Below.alloc ?_ ?_ _) | (with_reducible refine Below.drew ?_) | (with_reducible refine bdN ?_ _) | (with_reducible refine Below.setCell ?_ ?_ _) | (with_reducible refine chn ?_ (by assumption) ?_) | omega | (simp; done) | (simp; omega)))
      · clear e1 e2 i1 Vg V5 hab c60 c61 c62 V6 ll6 c70 c71 c72 V7 ll7 c80 c81 c82 V8 l8 c90 c91 c92 V9 l9 cg2 e3 e4 i2 fz z0 z1 z2
        go_upto_region 31 with (fail)
        (repeat (first | go_values | go_skip | go_guarded | go_step | go_upon))
        refine bodyPost_ret (v := tableauV n (some ⟨gx, 0, none⟩) n cx (some ⟨gz, 0, none⟩) n cz) (by first | (simp [results, Try.results139, go_sem, *]; done) | (simp (disch := (first | omega | (simp; done) | (simp; omega))) [results, Try.results139, go_sem, *]; done) | (simp only [results, Try.results139]; go_simp; done)) rfl ⟨gx, cx, gz, cz, rfl, ?_, ?_, ?_⟩
        · have R := HVX.out
          rw [show tab n (gtX 4 a b) = (tab n genX).set a (pv 2 (2 ^ a) 0) from (tab_set (by simp [gtX]) (fun q h1 h2 => by simp [gtX, h2])).symm]; refine Bs.far ?_ (by show gx ≠ w.heap.size + 1; omega) _; refine Bs.far ?_ (by show gx ≠ w.heap.size + 1; omega) _; refine Bs.far ?_ (by show gx ≠ w.heap.size + 1; omega) _; refine Bs.set1 (E := pauliE) (i := 0) (x := genX a) (y := pv 2 (2 ^ a) 0) ?_ (tab_get ha) (by decide) rfl (by rfl); exact R
        · have R := HVZ.out
          show Bs _ _ _ _ (tab n genZ); refine Bs.far ?_ (by show gz ≠ w.heap.size + 1; omega) _; refine Bs.far ?_ (by show gz ≠ w.heap.size + 1; omega) _; refine Bs.far ?_ (by show gz ≠ w.heap.size + 1; omega) _; refine Bs.far ?_ (by show gz ≠ gx; omega) _; exact R
        · (repeat' (first | (with_reducible exact Below.refl _ _) | (with_reducible assumption) | (with_reducible refine Below.alloc ?_ ?_ _) | (with_reducible refine Below.drew ?_) | (with_reducible refine bdN ?_ _) | (with_reducible refine Below.setCell ?_ ?_ _) | (with_reducible refine chn ?_ (by assumption) ?_) | omega | (simp; done) | (simp; omega)))
      · clear e1 e2 i1 Vg V5 hab c80 c81 c82 V8 l8 c90 c91 c92 V9 l9 cg2 e3 e4 i2 fz z0 z1 z2
        go_upto_region 31 with (fail)
        (repeat (first | go_values | go_skip | go_guarded | go_step | go_upon))
        refine bodyPost_ret (v := tableauV n (some ⟨gx, 0, none⟩) n cx (some ⟨gz, 0, none⟩) n cz) (by first | (simp [results, Try.results139, go_sem, *]; done) | (simp (disch := (first | omega | (simp; done) | (simp; omega))) [results, Try.results139, go_sem, *]; done) | (simp only [results, Try.results139]; go_simp; done)) rfl ⟨gx, cx, gz, cz, rfl, ?_, ?_, ?_⟩
        · have R := HVX.out
          rw [show tab n (gtX 5 a b) = (tab n genX).set a (pv 0 (2 ^ a) (2 ^ a)) from (tab_set (by simp [gtX]) (fun q h1 h2 => by simp [gtX, h2])).symm]; refine Bs.far ?_ (by show gx ≠ w.heap.size + 1; omega) _; refine Bs.far ?_ (by show gx ≠ w.heap.size + 1; omega) _; refine Bs.far ?_ (by show gx ≠ w.heap.size + 1; omega) _; refine Bs.stPauli (xs := (tab n genX)) (k := a) ?_ (pv 0 (2 ^ a) (2 ^ a)) (by rw [tab_len]; exact ha); exact R
        · have R := HVZ.out
          show Bs _ _ _ _ (tab n genZ); refine Bs.far ?_ (by show gz ≠ w.heap.size + 1; omega) _; refine Bs.far ?_ (by show gz ≠ w.heap.size + 1; omega) _; refine Bs.far ?_ (by show gz ≠ w.heap.size + 1; omega) _; refine Bs.far ?_ (by show gz ≠ gx; omega) _; refine Bs.far ?_ (by show gz ≠ gx; omega) _; refine Bs.far ?_ (by show gz ≠ gx; omega) _; exact R
        · (repeat' (first | (with_reducible exact Below.refl _ _) | (with_reducible assumption) | (with_reducible refine Below.alloc ?_ ?_ _) | (with_reducible refine Below.drew ?_) | (with_reducible refine bdN ?_ _) | (with_reducible refine Below.setCell ?_ ?_ _) | (with_reducible refine chn ?_ (by assumption) ?_) | omega | (simp; done) | (simp; omega)))
      · clear e1 e2 i1 Vg V5 hab c80 c81 c82 V8 l8 c90 c91 c92 V9 l9 cg2 e3 e4 i2 fz z0 z1 z2
        go_upto_region 31 with (fail)
        (repeat (first | go_values | go_skip | go_guarded | go_step | go_upon))
        refine bodyPost_ret (v := tableauV n (some ⟨gx, 0, none⟩) n cx (some ⟨gz, 0, none⟩) n cz) (by first | (simp [results, Try.results139, go_sem, *]; done) | (simp (disch := (first | omega | (simp; done) | (simp; omega))) [results, Try.results139, go_sem, *]; done) | (simp only [results, Try.results139]; go_simp; done)) rfl ⟨gx, cx, gz, cz, rfl, ?_, ?_, ?_⟩
        · have R := HVX.out
          rw [show tab n (gtX 6 a b) = ((tab n genX).set a (pv 0 (2 ^ a) (2 ^ a))).set a (pv 2 (2 ^ a) (2 ^ a)) from by rw [tab_set (n := n) (f := genX) (a := a) (v := pv 0 (2 ^ a) (2 ^ a)) (g := fun q => if q = a then pv 0 (2 ^ a) (2 ^ a) else genX q) (by simp) (fun q h1 h2 => by simp [h2]), tab_set (g := gtX 6 a b) (by simp [gtX]) (fun q h1 h2 => by simp [gtX, h2])]]; refine Bs.far ?_ (by show gx ≠ w.heap.size + 1; omega) _; refine Bs.far ?_ (by show gx ≠ w.heap.size + 1; omega) _; refine Bs.far ?_ (by show gx ≠ w.heap.size + 1; omega) _; refine Bs.set1 (E := pauliE) (i := 0) (x := pv 0 (2 ^ a) (2 ^ a)) (y := pv 2 (2 ^ a) (2 ^ a)) ?_ (by rw [List.getElem?_set]; simp [tab_len, ha]) (by decide) rfl (by rfl); refine Bs.stPauli (xs := (tab n genX)) (k := a) ?_ (pv 0 (2 ^ a) (2 ^ a)) (by rw [tab_len]; exact ha); exact R
        · have R := HVZ.out
          show Bs _ _ _ _ (tab n genZ); refine Bs.far ?_ (by show gz ≠ w.heap.size + 1; omega) _; refine Bs.far ?_ (by show gz ≠ w.heap.size + 1; omega) _; refine Bs.far ?_ (by show gz ≠ w.heap.size + 1; omega) _; refine Bs.far ?_ (by show gz ≠ gx; omega) _; refine Bs.far ?_ (by show gz ≠ gx; omega) _; refine Bs.far ?_ (by show gz ≠ gx; omega) _; refine Bs.far ?_ (by show gz ≠ gx; omega) _; exact R
        · (repeat' (first | (with_reducible exact Below.refl _ _) | (with_reducible assumption) | (with_reducible refine Below.alloc ?_ ?_ _) | (with_reducible refine Below.drew ?_) | (with_reducible refine bdN ?_ _) | (with_reducible refine Below.setCell ?_ ?_ _) | (with_reducible refine chn ?_ (by assumption) ?_) | omega | (simp; done) | (simp; omega)))
      · have hab := hab (by decide) (by decide)
        go_upto_region 21 with (fail)
        have yc51 : W3.drew.cell? ⟨w1.heap.size, 1, none⟩ = some (.slice (some ⟨gx, 0, none⟩) n cx) := c51
        have ycg1 : W3.drew.cell? ⟨w.heap.size, 1, none⟩ = some (.int .i64 (a : Int)) := cg1
        have yc60 : W3.drew.cell? ⟨p6, 0, none⟩ = some (.int .i64 0) := c60
        have yc61 : W3.drew.cell? ⟨p6, 1, none⟩ = some (.int .i64 ((pw a : Nat) : Int)) := c61
        have yc62 : W3.drew.cell? ⟨p6, 2, none⟩ = some (.int .i64 0) := c62
        have yc80 : W3.drew.cell? ⟨p8, 0, none⟩ = some (.int .i64 0) := c80
        have yc81 : W3.drew.cell? ⟨p8, 1, none⟩ = some (.int .i64 ((pw b : Nat) : Int)) := c81
        have yc82 : W3.drew.cell? ⟨p8, 2, none⟩ = some (.int .i64 0) := c82
        refine wp_region_x (fun w' => w'.cell? ⟨w1.heap.size, 1, none⟩ = some (.slice (some ⟨gx, 0, none⟩) n cx) ∧ w'.cell? ⟨w.heap.size, 1, none⟩ = some (.int .i64 (a : Int)) ∧ w'.cell? ⟨p6, 0, none⟩ = some (.int .i64 0) ∧ w'.cell? ⟨p6, 1, none⟩ = some (.int .i64 ((pw a : Nat) : Int)) ∧ w'.cell? ⟨p6, 2, none⟩ = some (.int .i64 0) ∧ w'.cell? ⟨p8, 0, none⟩ = some (.int .i64 0) ∧ w'.cell? ⟨p8, 1, none⟩ = some (.int .i64 ((pw b : Nat) : Int)) ∧ w'.cell? ⟨p8, 2, none⟩ = some (.int .i64 0)) 1000 (by kernel_rfl) ⟨yc51, ycg1, yc60, yc61, yc62, yc80, yc81, yc82⟩ (fun hS0 => ?_)
        refine wpAnyX_take (i := 0) (oi := _) (v := ?_) rfl (by kernel_rfl) (by kernel_rfl) (by kernel_rfl) (by kernel_rfl) (fun _ _ _ h => h) (Or.inl ⟨by rfl, ?_⟩) hS0 ?_
        rotate_left 1
        · (intro w hSw; (try dsimp only at hSw); go_simp; (try with_reducible rfl))
        try simp only [Act.put, List.setIfInBounds_toArray, List.set_cons_zero, List.set_cons_succ]
        refine wpAnyX_take (i := 1) (oi := _) (v := ?_) rfl (by kernel_rfl) (by kernel_rfl) (by kernel_rfl) (by kernel_rfl) (fun _ _ _ h => h) (Or.inl ⟨by rfl, ?_⟩) hS0 ?_
        rotate_left 1
        · (intro w hSw; (try dsimp only at hSw); go_simp; (try with_reducible rfl))
        try simp only [Act.put, List.setIfInBounds_toArray, List.set_cons_zero, List.set_cons_succ]
        refine wpAnyX_take (i := 2) (oi := _) (v := ?_) rfl (by kernel_rfl) (by kernel_rfl) (by kernel_rfl) (by kernel_rfl) (fun _ _ _ h => h) (Or.inl ⟨by rfl, ?_⟩) hS0 ?_
        rotate_left 1
        · (intro w hSw; (try dsimp only at hSw); go_simp; (try with_reducible rfl))
        try simp only [Act.put, List.setIfInBounds_toArray, List.set_cons_zero, List.set_cons_succ]
        refine wpAnyX_take (i := 3) (oi := _) (v := ?_) rfl (by kernel_rfl) (by kernel_rfl) (by kernel_rfl) (by kernel_rfl) (fun _ _ _ h => h) (Or.inl ⟨by rfl, ?_⟩) hS0 ?_
        rotate_left 1
        · (intro w hSw; (try dsimp only at hSw); go_simp; (try with_reducible rfl))
        try simp only [Act.put, List.setIfInBounds_toArray, List.set_cons_zero, List.set_cons_succ]
        refine wpAnyX_take (i := 4) (oi := _) (v := ?_) rfl (by kernel_rfl) (by kernel_rfl) (by kernel_rfl) (by kernel_rfl) (fun _ _ _ h => h) (Or.inl ⟨by rfl, ?_⟩) hS0 ?_
        rotate_left 1
        · (intro w hSw; (try dsimp only at hSw); go_simp; (try with_reducible rfl))
        try simp only [Act.put, List.setIfInBounds_toArray, List.set_cons_zero, List.set_cons_succ]
        refine wpAnyX_take (i := 5) (oi := _) (v := ?_) rfl (by kernel_rfl) (by kernel_rfl) (by kernel_rfl) (by kernel_rfl) (fun _ _ _ h => h) (Or.inl ⟨by rfl, ?_⟩) hS0 ?_
        rotate_left 1
        · (intro w hSw; (try dsimp only at hSw); go_simp; (try with_reducible rfl))
        try simp only [Act.put, List.setIfInBounds_toArray, List.set_cons_zero, List.set_cons_succ]
        refine wpAnyX_one (i := 6) (o := _) rfl (by kernel_rfl) (fun K hK => ?_)
        go_simp
        refine (lm_xx q5 ha hb hab _).mono ?_
        rintro ee w90 ⟨rfl, hb9⟩
        have k9 : Below W3.heap.size W3 w90 := ⟨hb9.os, hb9.tape, hb9.output, hb9.size, hb9.block⟩
        have hz9 := k9.size
        refine hK.out _ _ (fun _ => ?_) (fun hS1 => ?_)
        · exact ⟨kcl hb9 (hS0.1), kcl hb9 (hS0.2.1), kcl hb9 (hS0.2.2.1), kcl hb9 (hS0.2.2.2.1), kcl hb9 (hS0.2.2.2.2.1), kcl hb9 (hS0.2.2.2.2.2.1), kcl hb9 (hS0.2.2.2.2.2.2.1), kcl hb9 (hS0.2.2.2.2.2.2.2)⟩
        clear hK K
        have hS1 := hS1 (by decide)
        try simp only [Act.put, List.setIfInBounds_toArray, List.set_cons_zero, List.set_cons_succ]
        refine wpAnyX_take (i := 7) (oi := _) (v := ?_) rfl (by kernel_rfl) (by kernel_rfl) (by kernel_rfl) (by kernel_rfl) (fun _ _ _ h => h) (Or.inl ⟨by rfl, ?_⟩) hS1 ?_
        rotate_left 1
        · (intro w hSw; (try dsimp only at hSw); go_simp; (try with_reducible rfl))
        change wpAnyX _ _ _ _ _ _ _ _ (Act.put _ (some 109) _) _
        try simp only [Act.put, List.setIfInBounds_toArray, List.set_cons_zero, List.set_cons_succ]
        refine wpAnyX_one (i := 8) (o := _) rfl (by kernel_rfl) (fun K hK => ?_)
        have M9 := HVX.out.mono k9
        obtain ⟨m0, m1, m2⟩ := Bs.atPauli (k := a) (x := genX a) M9 (tab_get ha)
        have fm := M9.fr
        have lm := M9.lt
        go_simp
        refine hK.out _ _ (fun _ => ?_) (fun hS2 => ?_)
        · exact ⟨kclS3 (by omega) (hS1.1), kclS3 (by omega) (hS1.2.1), kclS3 (by omega) (hS1.2.2.1), kclS3 (by omega) (hS1.2.2.2.1), kclS3 (by omega) (hS1.2.2.2.2.1), kclS3 (by omega) (hS1.2.2.2.2.2.1), kclS3 (by omega) (hS1.2.2.2.2.2.2.1), kclS3 (by omega) (hS1.2.2.2.2.2.2.2)⟩
        clear hK K
        have hS2 := hS2 (by decide)
        try simp only [Act.put, List.setIfInBounds_toArray, List.set_cons_zero, List.set_cons_succ]
        refine wpAnyX_done (by kernel_rfl) ?_ _
        obtain ⟨W4, hW⟩ : ∃ W : World, W = ((w90.setCell ⟨gx, a * 3, none⟩ (.int .i64 0)).setCell ⟨gx, a * 3 + 1, none⟩ (.int .i64 ((orw a b : Nat) : Int))).setCell ⟨gx, a * 3 + 2, none⟩ (.int .i64 0) := ⟨_, rfl⟩
        have U0g : Hid (Bb W4 (w.heap.size) 116 #[.int .i64 ((9 : Nat) : Int), .int .i64 (a : Int), .int .i64 (b : Int)]) := by show Bb _ _ _ _; rw [hW]; exact (((Vg.out.mono k9).far (by omega)).far (by omega)).far (by omega)
        have U0t : Hid (Bb W4 (w.heap.size + 1) 53 #[.int .i64 0, .slice none 0 0, .slice none 0 0]) := by show Bb _ _ _ _; rw [hW]; exact (((Vt.out.mono k9).far (by omega)).far (by omega)).far (by omega)
        have U05 : Hid (Bb W4 (w1.heap.size) 53 #[.int .i64 (n : Int), .slice (some ⟨gx, 0, none⟩) n cx, .slice (some ⟨gz, 0, none⟩) n cz]) := by show Bb _ _ _ _; rw [hW]; exact (((V5.out.mono k9).far (by omega)).far (by omega)).far (by omega)
        have U06 : Hid (Bb W4 (p6) 43 #[.int .i64 0, .int .i64 ((pw a : Nat) : Int), .int .i64 0]) := by show Bb _ _ _ _; rw [hW]; exact (((V6.out.mono k9).far (by omega)).far (by omega)).far (by omega)
        have U07 : Hid (Bb W4 (p7) 43 #[.int .i64 0, .int .i64 0, .int .i64 ((pw a : Nat) : Int)]) := by show Bb _ _ _ _; rw [hW]; exact (((V7.out.mono k9).far (by omega)).far (by omega)).far (by omega)
        have U08 : Hid (Bb W4 (p8) 43 #[.int .i64 0, .int .i64 ((pw b : Nat) : Int), .int .i64 0]) := by show Bb _ _ _ _; rw [hW]; exact (((V8.out.mono k9).far (by omega)).far (by omega)).far (by omega)
        have U09 : Hid (Bb W4 (p9) 43 #[.int .i64 0, .int .i64 0, .int .i64 ((pw b : Nat) : Int)]) := by show Bb _ _ _ _; rw [hW]; exact (((V9.out.mono k9).far (by omega)).far (by omega)).far (by omega)
        have U0Hgx : Hid (Bs pauliE W4 gx 43 ((tab n genX).set a (pv 0 (orw a b) (0)))) := by show Bs _ _ _ _ _; rw [hW]; exact Bs.stPauli (xs := tab n genX) (k := a) (HVX.out.mono k9) (pv 0 (orw a b) (0)) (by rw [tab_len]; exact ha)
        have U0Hgz : Hid (Bs pauliE W4 gz 43 (tab n genZ)) := by show Bs _ _ _ _ _; rw [hW]; exact (((HVZ.out.mono k9).far (by show gz ≠ gx; omega) _).far (by show gz ≠ gx; omega) _).far (by show gz ≠ gx; omega) _
        have hBU0 : Below w.heap.size w W4 := by
          have h9 := chn hBd k9 (hBd.size)
          rw [hW]; exact Below.setCell (Below.setCell (Below.setCell h9 (by show w.heap.size ≤ gx; omega) _) (by show w.heap.size ≤ gx; omega) _) (by show w.heap.size ≤ gx; omega) _
        rw [← hW]
        clear hW k9 hb9 hz9 M9 m0 m1 m2 fm lm hS0 hS1 hS2
        clear cg0 cg1 cg2 ct0 ct1 ct2 c50 c51 c52 c60 c61 c62 c70 c71 c72 c80 c81 c82 c90 c91 c92 lg lt l5 ll6 ll7 l8 l9 ft fx fz lgx lgz x0 x1 x2 z0 z1 z2
        have cg0 : W4.cell? ⟨w.heap.size, 0, none⟩ = some (.int .i64 ((9 : Nat) : Int)) := U0g.out.c 0 rfl
        have cg1 : W4.cell? ⟨w.heap.size, 1, none⟩ = some (.int .i64 (a : Int)) := U0g.out.c 1 rfl
        have cg2 : W4.cell? ⟨w.heap.size, 2, none⟩ = some (.int .i64 (b : Int)) := U0g.out.c 2 rfl
        have ct0 : W4.cell? ⟨w.heap.size + 1, 0, none⟩ = some (.int .i64 0) := U0t.out.c 0 rfl
        have ct1 : W4.cell? ⟨w.heap.size + 1, 1, none⟩ = some (.slice none 0 0) := U0t.out.c 1 rfl
        have ct2 : W4.cell? ⟨w.heap.size + 1, 2, none⟩ = some (.slice none 0 0) := U0t.out.c 2 rfl
        have c50 : W4.cell? ⟨w1.heap.size, 0, none⟩ = some (.int .i64 (n : Int)) := U05.out.c 0 rfl
        have c51 : W4.cell? ⟨w1.heap.size, 1, none⟩ = some (.slice (some ⟨gx, 0, none⟩) n cx) := U05.out.c 1 rfl
        have c52 : W4.cell? ⟨w1.heap.size, 2, none⟩ = some (.slice (some ⟨gz, 0, none⟩) n cz) := U05.out.c 2 rfl
        have c60 : W4.cell? ⟨p6, 0, none⟩ = some (.int .i64 0) := U06.out.c 0 rfl
        have c61 : W4.cell? ⟨p6, 1, none⟩ = some (.int .i64 ((pw a : Nat) : Int)) := U06.out.c 1 rfl
        have c62 : W4.cell? ⟨p6, 2, none⟩ = some (.int .i64 0) := U06.out.c 2 rfl
        have c70 : W4.cell? ⟨p7, 0, none⟩ = some (.int .i64 0) := U07.out.c 0 rfl
        have c71 : W4.cell? ⟨p7, 1, none⟩ = some (.int .i64 0) := U07.out.c 1 rfl
        have c72 : W4.cell? ⟨p7, 2, none⟩ = some (.int .i64 ((pw a : Nat) : Int)) := U07.out.c 2 rfl
        have c80 : W4.cell? ⟨p8, 0, none⟩ = some (.int .i64 0) := U08.out.c 0 rfl
        have c81 : W4.cell? ⟨p8, 1, none⟩ = some (.int .i64 ((pw b : Nat) : Int)) := U08.out.c 1 rfl
        have c82 : W4.cell? ⟨p8, 2, none⟩ = some (.int .i64 0) := U08.out.c 2 rfl
        have c90 : W4.cell? ⟨p9, 0, none⟩ = some (.int .i64 0) := U09.out.c 0 rfl
        have c91 : W4.cell? ⟨p9, 1, none⟩ = some (.int .i64 0) := U09.out.c 1 rfl
        have c92 : W4.cell? ⟨p9, 2, none⟩ = some (.int .i64 ((pw b : Nat) : Int)) := U09.out.c 2 rfl
        have lg := U0g.out.lt
        have lt := U0t.out.lt
        have l5 := U05.out.lt
        have ll6 := U06.out.lt
        have ll7 := U07.out.lt
        have l8 := U08.out.lt
        have l9 := U09.out.lt
        have ft := U0t.out.f
        go_upto_region 22 with (fail)
        have yc52 : W4.drew.cell? ⟨w1.heap.size, 2, none⟩ = some (.slice (some ⟨gz, 0, none⟩) n cz) := c52
        have ycg2 : W4.drew.cell? ⟨w.heap.size, 2, none⟩ = some (.int .i64 (b : Int)) := cg2
        have yc70 : W4.drew.cell? ⟨p7, 0, none⟩ = some (.int .i64 0) := c70
        have yc71 : W4.drew.cell? ⟨p7, 1, none⟩ = some (.int .i64 0) := c71
        have yc72 : W4.drew.cell? ⟨p7, 2, none⟩ = some (.int .i64 ((pw a : Nat) : Int)) := c72
        have yc90 : W4.drew.cell? ⟨p9, 0, none⟩ = some (.int .i64 0) := c90
        have yc91 : W4.drew.cell? ⟨p9, 1, none⟩ = some (.int .i64 0) := c91
        have yc92 : W4.drew.cell? ⟨p9, 2, none⟩ = some (.int .i64 ((pw b : Nat) : Int)) := c92
        refine wp_region_x (fun w' => w'.cell? ⟨w1.heap.size, 2, none⟩ = some (.slice (some ⟨gz, 0, none⟩) n cz) ∧ w'.cell? ⟨w.heap.size, 2, none⟩ = some (.int .i64 (b : Int)) ∧ w'.cell? ⟨p7, 0, none⟩ = some (.int .i64 0) ∧ w'.cell? ⟨p7, 1, none⟩ = some (.int .i64 0) ∧ w'.cell? ⟨p7, 2, none⟩ = some (.int .i64 ((pw a : Nat) : Int)) ∧ w'.cell? ⟨p9, 0, none⟩ = some (.int .i64 0) ∧ w'.cell? ⟨p9, 1, none⟩ = some (.int .i64 0) ∧ w'.cell? ⟨p9, 2, none⟩ = some (.int .i64 ((pw b : Nat) : Int))) 1000 (by kernel_rfl) ⟨yc52, ycg2, yc70, yc71, yc72, yc90, yc91, yc92⟩ (fun hS0 => ?_)
        refine wpAnyX_take (i := 0) (oi := _) (v := ?_) rfl (by kernel_rfl) (by kernel_rfl) (by kernel_rfl) (by kernel_rfl) (fun _ _ _ h => h) (Or.inl ⟨by rfl, ?_⟩) hS0 ?_
        rotate_left 1
        · (intro w hSw; (try dsimp only at hSw); go_simp; (try with_reducible rfl))
        try simp only [Act.put, List.setIfInBounds_toArray, List.set_cons_zero, List.set_cons_succ]
        refine wpAnyX_take (i := 1) (oi := _) (v := ?_) rfl (by kernel_rfl) (by kernel_rfl) (by kernel_rfl) (by kernel_rfl) (fun _ _ _ h => h) (Or.inl ⟨by rfl, ?_⟩) hS0 ?_
        rotate_left 1
        · (intro w hSw; (try dsimp only at hSw); go_simp; (try with_reducible rfl))
        try simp only [Act.put, List.setIfInBounds_toArray, List.set_cons_zero, List.set_cons_succ]
        refine wpAnyX_take (i := 2) (oi := _) (v := ?_) rfl (by kernel_rfl) (by kernel_rfl) (by kernel_rfl) (by kernel_rfl) (fun _ _ _ h => h) (Or.inl ⟨by rfl, ?_⟩) hS0 ?_
        rotate_left 1
        · (intro w hSw; (try dsimp only at hSw); go_simp; (try with_reducible rfl))
        try simp only [Act.put, List.setIfInBounds_toArray, List.set_cons_zero, List.set_cons_succ]
        refine wpAnyX_take (i := 3) (oi := _) (v := ?_) rfl (by kernel_rfl) (by kernel_rfl) (by kernel_rfl) (by kernel_rfl) (fun _ _ _ h => h) (Or.inl ⟨by rfl, ?_⟩) hS0 ?_
        rotate_left 1
        · (intro w hSw; (try dsimp only at hSw); go_simp; (try with_reducible rfl))
        try simp only [Act.put, List.setIfInBounds_toArray, List.set_cons_zero, List.set_cons_succ]
        refine wpAnyX_take (i := 4) (oi := _) (v := ?_) rfl (by kernel_rfl) (by kernel_rfl) (by kernel_rfl) (by kernel_rfl) (fun _ _ _ h => h) (Or.inl ⟨by rfl, ?_⟩) hS0 ?_
        rotate_left 1
        · (intro w hSw; (try dsimp only at hSw); go_simp; (try with_reducible rfl))
        try simp only [Act.put, List.setIfInBounds_toArray, List.set_cons_zero, List.set_cons_succ]
        refine wpAnyX_take (i := 5) (oi := _) (v := ?_) rfl (by kernel_rfl) (by kernel_rfl) (by kernel_rfl) (by kernel_rfl) (fun _ _ _ h => h) (Or.inl ⟨by rfl, ?_⟩) hS0 ?_
        rotate_left 1
        · (intro w hSw; (try dsimp only at hSw); go_simp; (try with_reducible rfl))
        try simp only [Act.put, List.setIfInBounds_toArray, List.set_cons_zero, List.set_cons_succ]
        refine wpAnyX_one (i := 6) (o := _) rfl (by kernel_rfl) (fun K hK => ?_)
        go_simp
        refine (lm_zz q5 ha hb hab _).mono ?_
        rintro ee w91 ⟨rfl, hb9⟩
        have k9 : Below W4.heap.size W4 w91 := ⟨hb9.os, hb9.tape, hb9.output, hb9.size, hb9.block⟩
        have hz9 := k9.size
        refine hK.out _ _ (fun _ => ?_) (fun hS1 => ?_)
        · exact ⟨kcl hb9 (hS0.1), kcl hb9 (hS0.2.1), kcl hb9 (hS0.2.2.1), kcl hb9 (hS0.2.2.2.1), kcl hb9 (hS0.2.2.2.2.1), kcl hb9 (hS0.2.2.2.2.2.1), kcl hb9 (hS0.2.2.2.2.2.2.1), kcl hb9 (hS0.2.2.2.2.2.2.2)⟩
        clear hK K
        have hS1 := hS1 (by decide)
        try simp only [Act.put, List.setIfInBounds_toArray, List.set_cons_zero, List.set_cons_succ]
        refine wpAnyX_take (i := 7) (oi := _) (v := ?_) rfl (by kernel_rfl) (by kernel_rfl) (by kernel_rfl) (by kernel_rfl) (fun _ _ _ h => h) (Or.inl ⟨by rfl, ?_⟩) hS1 ?_
        rotate_left 1
        · (intro w hSw; (try dsimp only at hSw); go_simp; (try with_reducible rfl))
        change wpAnyX _ _ _ _ _ _ _ _ (Act.put _ (some 117) _) _
        try simp only [Act.put, List.setIfInBounds_toArray, List.set_cons_zero, List.set_cons_succ]
        refine wpAnyX_one (i := 8) (o := _) rfl (by kernel_rfl) (fun K hK => ?_)
        have M9 := U0Hgz.out.mono k9
        obtain ⟨m0, m1, m2⟩ := Bs.atPauli (k := b) (x := genZ b) M9 (tab_get hb)
        have fm := M9.fr
        have lm := M9.lt
        go_simp
        refine hK.out _ _ (fun _ => ?_) (fun hS2 => ?_)
        · exact ⟨kclS3 (by omega) (hS1.1), kclS3 (by omega) (hS1.2.1), kclS3 (by omega) (hS1.2.2.1), kclS3 (by omega) (hS1.2.2.2.1), kclS3 (by omega) (hS1.2.2.2.2.1), kclS3 (by omega) (hS1.2.2.2.2.2.1), kclS3 (by omega) (hS1.2.2.2.2.2.2.1), kclS3 (by omega) (hS1.2.2.2.2.2.2.2)⟩
        clear hK K
        have hS2 := hS2 (by decide)
        try simp only [Act.put, List.setIfInBounds_toArray, List.set_cons_zero, List.set_cons_succ]
        refine wpAnyX_done (by kernel_rfl) ?_ _
        obtain ⟨W5, hW⟩ : ∃ W : World, W = ((w91.setCell ⟨gz, b * 3, none⟩ (.int .i64 0)).setCell ⟨gz, b * 3 + 1, none⟩ (.int .i64 0)).setCell ⟨gz, b * 3 + 2, none⟩ (.int .i64 ((orw a b : Nat) : Int)) := ⟨_, rfl⟩
        have U1g : Hid (Bb W5 (w.heap.size) 116 #[.int .i64 ((9 : Nat) : Int), .int .i64 (a : Int), .int .i64 (b : Int)]) := by show Bb _ _ _ _; rw [hW]; exact (((U0g.out.mono k9).far (by omega)).far (by omega)).far (by omega)
        have U1t : Hid (Bb W5 (w.heap.size + 1) 53 #[.int .i64 0, .slice none 0 0, .slice none 0 0]) := by show Bb _ _ _ _; rw [hW]; exact (((U0t.out.mono k9).far (by omega)).far (by omega)).far (by omega)
        have U15 : Hid (Bb W5 (w1.heap.size) 53 #[.int .i64 (n : Int), .slice (some ⟨gx, 0, none⟩) n cx, .slice (some ⟨gz, 0, none⟩) n cz]) := by show Bb _ _ _ _; rw [hW]; exact (((U05.out.mono k9).far (by omega)).far (by omega)).far (by omega)
        have U16 : Hid (Bb W5 (p6) 43 #[.int .i64 0, .int .i64 ((pw a : Nat) : Int), .int .i64 0]) := by show Bb _ _ _ _; rw [hW]; exact (((U06.out.mono k9).far (by omega)).far (by omega)).far (by omega)
        have U17 : Hid (Bb W5 (p7) 43 #[.int .i64 0, .int .i64 0, .int .i64 ((pw a : Nat) : Int)]) := by show Bb _ _ _ _; rw [hW]; exact (((U07.out.mono k9).far (by omega)).far (by omega)).far (by omega)
        have U18 : Hid (Bb W5 (p8) 43 #[.int .i64 0, .int .i64 ((pw b : Nat) : Int), .int .i64 0]) := by show Bb _ _ _ _; rw [hW]; exact (((U08.out.mono k9).far (by omega)).far (by omega)).far (by omega)
        have U19 : Hid (Bb W5 (p9) 43 #[.int .i64 0, .int .i64 0, .int .i64 ((pw b : Nat) : Int)]) := by show Bb _ _ _ _; rw [hW]; exact (((U09.out.mono k9).far (by omega)).far (by omega)).far (by omega)
        have U1Hgx : Hid (Bs pauliE W5 gx 43 ((tab n genX).set a (pv 0 (orw a b) (0)))) := by show Bs _ _ _ _ _; rw [hW]; exact (((U0Hgx.out.mono k9).far (by show gx ≠ gz; omega) _).far (by show gx ≠ gz; omega) _).far (by show gx ≠ gz; omega) _
        have U1Hgz : Hid (Bs pauliE W5 gz 43 ((tab n genZ).set b (pv 0 (0) (orw a b)))) := by show Bs _ _ _ _ _; rw [hW]; exact Bs.stPauli (xs := tab n genZ) (k := b) (U0Hgz.out.mono k9) (pv 0 (0) (orw a b)) (by rw [tab_len]; exact hb)
        have hBU1 : Below w.heap.size w W5 := by
          have h9 := chn hBU0 k9 (hBU0.size)
          rw [hW]; exact Below.setCell (Below.setCell (Below.setCell h9 (by show w.heap.size ≤ gz; omega) _) (by show w.heap.size ≤ gz; omega) _) (by show w.heap.size ≤ gz; omega) _
        rw [← hW]
        clear hW k9 hb9 hz9 M9 m0 m1 m2 fm lm hS0 hS1 hS2
        clear cg0 cg1 cg2 ct0 ct1 ct2 c50 c51 c52 c60 c61 c62 c70 c71 c72 c80 c81 c82 c90 c91 c92 lg lt l5 ll6 ll7 l8 l9 ft
        have cg0 : W5.cell? ⟨w.heap.size, 0, none⟩ = some (.int .i64 ((9 : Nat) : Int)) := U1g.out.c 0 rfl
        have cg1 : W5.cell? ⟨w.heap.size, 1, none⟩ = some (.int .i64 (a : Int)) := U1g.out.c 1 rfl
        have cg2 : W5.cell? ⟨w.heap.size, 2, none⟩ = some (.int .i64 (b : Int)) := U1g.out.c 2 rfl
        have ct0 : W5.cell? ⟨w.heap.size + 1, 0, none⟩ = some (.int .i64 0) := U1t.out.c 0 rfl
        have ct1 : W5.cell? ⟨w.heap.size + 1, 1, none⟩ = some (.slice none 0 0) := U1t.out.c 1 rfl
        have ct2 : W5.cell? ⟨w.heap.size + 1, 2, none⟩ = some (.slice none 0 0) := U1t.out.c 2 rfl
        have c50 : W5.cell? ⟨w1.heap.size, 0, none⟩ = some (.int .i64 (n : Int)) := U15.out.c 0 rfl
        have c51 : W5.cell? ⟨w1.heap.size, 1, none⟩ = some (.slice (some ⟨gx, 0, none⟩) n cx) := U15.out.c 1 rfl
        have c52 : W5.cell? ⟨w1.heap.size, 2, none⟩ = some (.slice (some ⟨gz, 0, none⟩) n cz) := U15.out.c 2 rfl
        have c60 : W5.cell? ⟨p6, 0, none⟩ = some (.int .i64 0) := U16.out.c 0 rfl
        have c61 : W5.cell? ⟨p6, 1, none⟩ = some (.int .i64 ((pw a : Nat) : Int)) := U16.out.c 1 rfl
        have c62 : W5.cell? ⟨p6, 2, none⟩ = some (.int .i64 0) := U16.out.c 2 rfl
        have c70 : W5.cell? ⟨p7, 0, none⟩ = some (.int .i64 0) := U17.out.c 0 rfl
        have c71 : W5.cell? ⟨p7, 1, none⟩ = some (.int .i64 0) := U17.out.c 1 rfl
        have c72 : W5.cell? ⟨p7, 2, none⟩ = some (.int .i64 ((pw a : Nat) : Int)) := U17.out.c 2 rfl
        have c80 : W5.cell? ⟨p8, 0, none⟩ = some (.int .i64 0) := U18.out.c 0 rfl
        have c81 : W5.cell? ⟨p8, 1, none⟩ = some (.int .i64 ((pw b : Nat) : Int)) := U18.out.c 1 rfl
        have c82 : W5.cell? ⟨p8, 2, none⟩ = some (.int .i64 0) := U18.out.c 2 rfl
        have c90 : W5.cell? ⟨p9, 0, none⟩ = some (.int .i64 0) := U19.out.c 0 rfl
        have c91 : W5.cell? ⟨p9, 1, none⟩ = some (.int .i64 0) := U19.out.c 1 rfl
        have c92 : W5.cell? ⟨p9, 2, none⟩ = some (.int .i64 ((pw b : Nat) : Int)) := U19.out.c 2 rfl
        have lg := U1g.out.lt
        have lt := U1t.out.lt
        have l5 := U15.out.lt
        have ll6 := U16.out.lt
        have ll7 := U17.out.lt
        have l8 := U18.out.lt
        have l9 := U19.out.lt
        have ft := U1t.out.f
        go_upto_region 31 with (fail)
        (repeat (first | go_values | go_skip | go_guarded | go_step | go_upon))
        refine bodyPost_ret (v := tableauV n (some ⟨gx, 0, none⟩) n cx (some ⟨gz, 0, none⟩) n cz) (by first | (simp [results, Try.results139, go_sem, *]; done) | (simp (disch := (first | omega | (simp; done) | (simp; omega))) [results, Try.results139, go_sem, *]; done) | (simp only [results, Try.results139]; go_simp; done)) rfl ⟨gx, cx, gz, cz, rfl, ?_, ?_, ?_⟩
        · rw [show tab n (gtX 9 a b) = (tab n genX).set a (pv 0 (orw a b) 0) from (tab_set (by simp [gtX, orw]) (fun q h1 h2 => by simp [gtX, h2])).symm]; exact ((U1Hgx.out.far (by show gx ≠ w.heap.size + 1; omega) _).far (by show gx ≠ w.heap.size + 1; omega) _).far (by show gx ≠ w.heap.size + 1; omega) _
        · rw [show tab n (gtZ 9 a b) = (tab n genZ).set b (pv 0 0 (orw a b)) from (tab_set (by simp [gtZ, or_sw, orw]) (fun q h1 h2 => by simp [gtZ, h2])).symm]; exact ((U1Hgz.out.far (by show gz ≠ w.heap.size + 1; omega) _).far (by show gz ≠ w.heap.size + 1; omega) _).far (by show gz ≠ w.heap.size + 1; omega) _
        · (repeat' (first | (with_reducible exact Below.refl _ _) | (with_reducible assumption) | (with_reducible refine Below.alloc ?_ ?_ _) | (with_reducible refine Below.drew ?_) | (with_reducible refine bdN ?_ _) | (with_reducible refine Below.setCell ?_ ?_ _) | (with_reducible refine chn ?_ (by assumption) ?_) | omega | (simp; done) | (simp; omega)))
      · have hab := hab (by decide) (by decide)
        go_upto_region 24 with (fail)
        have yc51 : W3.drew.cell? ⟨w1.heap.size, 1, none⟩ = some (.slice (some ⟨gx, 0, none⟩) n cx) := c51
        have ycg1 : W3.drew.cell? ⟨w.heap.size, 1, none⟩ = some (.int .i64 (a : Int)) := cg1
        have yc60 : W3.drew.cell? ⟨p6, 0, none⟩ = some (.int .i64 0) := c60
        have yc61 : W3.drew.cell? ⟨p6, 1, none⟩ = some (.int .i64 ((pw a : Nat) : Int)) := c61
        have yc62 : W3.drew.cell? ⟨p6, 2, none⟩ = some (.int .i64 0) := c62
        have yc90 : W3.drew.cell? ⟨p9, 0, none⟩ = some (.int .i64 0) := c90
        have yc91 : W3.drew.cell? ⟨p9, 1, none⟩ = some (.int .i64 0) := c91
        have yc92 : W3.drew.cell? ⟨p9, 2, none⟩ = some (.int .i64 ((pw b : Nat) : Int)) := c92
        refine wp_region_x (fun w' => w'.cell? ⟨w1.heap.size, 1, none⟩ = some (.slice (some ⟨gx, 0, none⟩) n cx) ∧ w'.cell? ⟨w.heap.size, 1, none⟩ = some (.int .i64 (a : Int)) ∧ w'.cell? ⟨p6, 0, none⟩ = some (.int .i64 0) ∧ w'.cell? ⟨p6, 1, none⟩ = some (.int .i64 ((pw a : Nat) : Int)) ∧ w'.cell? ⟨p6, 2, none⟩ = some (.int .i64 0) ∧ w'.cell? ⟨p9, 0, none⟩ = some (.int .i64 0) ∧ w'.cell? ⟨p9, 1, none⟩ = some (.int .i64 0) ∧ w'.cell? ⟨p9, 2, none⟩ = some (.int .i64 ((pw b : Nat) : Int))) 1000 (by kernel_rfl) ⟨yc51, ycg1, yc60, yc61, yc62, yc90, yc91, yc92⟩ (fun hS0 => ?_)
        refine wpAnyX_take (i := 0) (oi := _) (v := ?_) rfl (by kernel_rfl) (by kernel_rfl) (by kernel_rfl) (by kernel_rfl) (fun _ _ _ h => h) (Or.inl ⟨by rfl, ?_⟩) hS0 ?_
        rotate_left 1
        · (intro w hSw; (try dsimp only at hSw); go_simp; (try with_reducible rfl))
        try simp only [Act.put, List.setIfInBounds_toArray, List.set_cons_zero, List.set_cons_succ]
        refine wpAnyX_take (i := 1) (oi := _) (v := ?_) rfl (by kernel_rfl) (by kernel_rfl) (by kernel_rfl) (by kernel_rfl) (fun _ _ _ h => h) (Or.inl ⟨by rfl, ?_⟩) hS0 ?_
        rotate_left 1
        · (intro w hSw; (try dsimp only at hSw); go_simp; (try with_reducible rfl))
        try simp only [Act.put, List.setIfInBounds_toArray, List.set_cons_zero, List.set_cons_succ]
        refine wpAnyX_take (i := 2) (oi := _) (v := ?_) rfl (by kernel_rfl) (by kernel_rfl) (by kernel_rfl) (by kernel_rfl) (fun _ _ _ h => h) (Or.inl ⟨by rfl, ?_⟩) hS0 ?_
        rotate_left 1
        · (intro w hSw; (try dsimp only at hSw); go_simp; (try with_reducible rfl))
        try simp only [Act.put, List.setIfInBounds_toArray, List.set_cons_zero, List.set_cons_succ]
        refine wpAnyX_take (i := 3) (oi := _) (v := ?_) rfl (by kernel_rfl) (by kernel_rfl) (by kernel_rfl) (by kernel_rfl) (fun _ _ _ h => h) (Or.inl ⟨by rfl, ?_⟩) hS0 ?_
        rotate_left 1
        · (intro w hSw; (try dsimp only at hSw); go_simp; (try with_reducible rfl))
        try simp only [Act.put, List.setIfInBounds_toArray, List.set_cons_zero, List.set_cons_succ]
        refine wpAnyX_take (i := 4) (oi := _) (v := ?_) rfl (by kernel_rfl) (by kernel_rfl) (by kernel_rfl) (by kernel_rfl) (fun _ _ _ h => h) (Or.inl ⟨by rfl, ?_⟩) hS0 ?_
        rotate_left 1
        · (intro w hSw; (try dsimp only at hSw); go_simp; (try with_reducible rfl))
        try simp only [Act.put, List.setIfInBounds_toArray, List.set_cons_zero, List.set_cons_succ]
        refine wpAnyX_take (i := 5) (oi := _) (v := ?_) rfl (by kernel_rfl) (by kernel_rfl) (by kernel_rfl) (by kernel_rfl) (fun _ _ _ h => h) (Or.inl ⟨by rfl, ?_⟩) hS0 ?_
        rotate_left 1
        · (intro w hSw; (try dsimp only at hSw); go_simp; (try with_reducible rfl))
        try simp only [Act.put, List.setIfInBounds_toArray, List.set_cons_zero, List.set_cons_succ]
        refine wpAnyX_one (i := 6) (o := _) rfl (by kernel_rfl) (fun K hK => ?_)
        go_simp
        refine (lm_xz q5 ha hb hab _).mono ?_
        rintro ee w90 ⟨rfl, hb9⟩
        have k9 : Below W3.heap.size W3 w90 := ⟨hb9.os, hb9.tape, hb9.output, hb9.size, hb9.block⟩
        have hz9 := k9.size
        refine hK.out _ _ (fun _ => ?_) (fun hS1 => ?_)
        · exact ⟨kcl hb9 (hS0.1), kcl hb9 (hS0.2.1), kcl hb9 (hS0.2.2.1), kcl hb9 (hS0.2.2.2.1), kcl hb9 (hS0.2.2.2.2.1), kcl hb9 (hS0.2.2.2.2.2.1), kcl hb9 (hS0.2.2.2.2.2.2.1), kcl hb9 (hS0.2.2.2.2.2.2.2)⟩
        clear hK K
        have hS1 := hS1 (by decide)
        try simp only [Act.put, List.setIfInBounds_toArray, List.set_cons_zero, List.set_cons_succ]
        refine wpAnyX_take (i := 7) (oi := _) (v := ?_) rfl (by kernel_rfl) (by kernel_rfl) (by kernel_rfl) (by kernel_rfl) (fun _ _ _ h => h) (Or.inl ⟨by rfl, ?_⟩) hS1 ?_
        rotate_left 1
        · (intro w hSw; (try dsimp only at hSw); go_simp; (try with_reducible rfl))
        change wpAnyX _ _ _ _ _ _ _ _ (Act.put _ (some 127) _) _
        try simp only [Act.put, List.setIfInBounds_toArray, List.set_cons_zero, List.set_cons_succ]
        refine wpAnyX_one (i := 8) (o := _) rfl (by kernel_rfl) (fun K hK => ?_)
        have M9 := HVX.out.mono k9
        obtain ⟨m0, m1, m2⟩ := Bs.atPauli (k := a) (x := genX a) M9 (tab_get ha)
        have fm := M9.fr
        have lm := M9.lt
        go_simp
        refine hK.out _ _ (fun _ => ?_) (fun hS2 => ?_)
        · exact ⟨kclS3 (by omega) (hS1.1), kclS3 (by omega) (hS1.2.1), kclS3 (by omega) (hS1.2.2.1), kclS3 (by omega) (hS1.2.2.2.1), kclS3 (by omega) (hS1.2.2.2.2.1), kclS3 (by omega) (hS1.2.2.2.2.2.1), kclS3 (by omega) (hS1.2.2.2.2.2.2.1), kclS3 (by omega) (hS1.2.2.2.2.2.2.2)⟩
        clear hK K
        have hS2 := hS2 (by decide)
        try simp only [Act.put, List.setIfInBounds_toArray, List.set_cons_zero, List.set_cons_succ]
        refine wpAnyX_done (by kernel_rfl) ?_ _
        obtain ⟨W4, hW⟩ : ∃ W : World, W = ((w90.setCell ⟨gx, a * 3, none⟩ (.int .i64 0)).setCell ⟨gx, a * 3 + 1, none⟩ (.int .i64 ((pw a : Nat) : Int))).setCell ⟨gx, a * 3 + 2, none⟩ (.int .i64 ((pw b : Nat) : Int)) := ⟨_, rfl⟩
        have U0g : Hid (Bb W4 (w.heap.size) 116 #[.int .i64 ((10 : Nat) : Int), .int .i64 (a : Int), .int .i64 (b : Int)]) := by show Bb _ _ _ _; rw [hW]; exact (((Vg.out.mono k9).far (by omega)).far (by omega)).far (by omega)
        have U0t : Hid (Bb W4 (w.heap.size + 1) 53 #[.int .i64 0, .slice none 0 0, .slice none 0 0]) := by show Bb _ _ _ _; rw [hW]; exact (((Vt.out.mono k9).far (by omega)).far (by omega)).far (by omega)
        have U05 : Hid (Bb W4 (w1.heap.size) 53 #[.int .i64 (n : Int), .slice (some ⟨gx, 0, none⟩) n cx, .slice (some ⟨gz, 0, none⟩) n cz]) := by show Bb _ _ _ _; rw [hW]; exact (((V5.out.mono k9).far (by omega)).far (by omega)).far (by omega)
        have U06 : Hid (Bb W4 (p6) 43 #[.int .i64 0, .int .i64 ((pw a : Nat) : Int), .int .i64 0]) := by show Bb _ _ _ _; rw [hW]; exact (((V6.out.mono k9).far (by omega)).far (by omega)).far (by omega)
        have U07 : Hid (Bb W4 (p7) 43 #[.int .i64 0, .int .i64 0, .int .i64 ((pw a : Nat) : Int)]) := by show Bb _ _ _ _; rw [hW]; exact (((V7.out.mono k9).far (by omega)).far (by omega)).far (by omega)
        have U08 : Hid (Bb W4 (p8) 43 #[.int .i64 0, .int .i64 ((pw b : Nat) : Int), .int .i64 0]) := by show Bb _ _ _ _; rw [hW]; exact (((V8.out.mono k9).far (by omega)).far (by omega)).far (by omega)
        have U09 : Hid (Bb W4 (p9) 43 #[.int .i64 0, .int .i64 0, .int .i64 ((pw b : Nat) : Int)]) := by show Bb _ _ _ _; rw [hW]; exact (((V9.out.mono k9).far (by omega)).far (by omega)).far (by omega)
        have U0Hgx : Hid (Bs pauliE W4 gx 43 ((tab n genX).set a (pv 0 (pw a) (pw b)))) := by show Bs _ _ _ _ _; rw [hW]; exact Bs.stPauli (xs := tab n genX) (k := a) (HVX.out.mono k9) (pv 0 (pw a) (pw b)) (by rw [tab_len]; exact ha)
        have U0Hgz : Hid (Bs pauliE W4 gz 43 (tab n genZ)) := by show Bs _ _ _ _ _; rw [hW]; exact (((HVZ.out.mono k9).far (by show gz ≠ gx; omega) _).far (by show gz ≠ gx; omega) _).far (by show gz ≠ gx; omega) _
        have hBU0 : Below w.heap.size w W4 := by
          have h9 := chn hBd k9 (hBd.size)
          rw [hW]; exact Below.setCell (Below.setCell (Below.setCell h9 (by show w.heap.size ≤ gx; omega) _) (by show w.heap.size ≤ gx; omega) _) (by show w.heap.size ≤ gx; omega) _
        rw [← hW]
        clear hW k9 hb9 hz9 M9 m0 m1 m2 fm lm hS0 hS1 hS2
        clear cg0 cg1 cg2 ct0 ct1 ct2 c50 c51 c52 c60 c61 c62 c70 c71 c72 c80 c81 c82 c90 c91 c92 lg lt l5 ll6 ll7 l8 l9 ft fx fz lgx lgz x0 x1 x2 z0 z1 z2
        have cg0 : W4.cell? ⟨w.heap.size, 0, none⟩ = some (.int .i64 ((10 : Nat) : Int)) := U0g.out.c 0 rfl
        have cg1 : W4.cell? ⟨w.heap.size, 1, none⟩ = some (.int .i64 (a : Int)) := U0g.out.c 1 rfl
        have cg2 : W4.cell? ⟨w.heap.size, 2, none⟩ = some (.int .i64 (b : Int)) := U0g.out.c 2 rfl
        have ct0 : W4.cell? ⟨w.heap.size + 1, 0, none⟩ = some (.int .i64 0) := U0t.out.c 0 rfl
        have ct1 : W4.cell? ⟨w.heap.size + 1, 1, none⟩ = some (.slice none 0 0) := U0t.out.c 1 rfl
        have ct2 : W4.cell? ⟨w.heap.size + 1, 2, none⟩ = some (.slice none 0 0) := U0t.out.c 2 rfl
        have c50 : W4.cell? ⟨w1.heap.size, 0, none⟩ = some (.int .i64 (n : Int)) := U05.out.c 0 rfl
        have c51 : W4.cell? ⟨w1.heap.size, 1, none⟩ = some (.slice (some ⟨gx, 0, none⟩) n cx) := U05.out.c 1 rfl
        have c52 : W4.cell? ⟨w1.heap.size, 2, none⟩ = some (.slice (some ⟨gz, 0, none⟩) n cz) := U05.out.c 2 rfl
        have c60 : W4.cell? ⟨p6, 0, none⟩ = some (.int .i64 0) := U06.out.c 0 rfl
        have c61 : W4.cell? ⟨p6, 1, none⟩ = some (.int .i64 ((pw a : Nat) : Int)) := U06.out.c 1 rfl
        have c62 : W4.cell? ⟨p6, 2, none⟩ = some (.int .i64 0) := U06.out.c 2 rfl
        have c70 : W4.cell? ⟨p7, 0, none⟩ = some (.int .i64 0) := U07.out.c 0 rfl
        have c71 : W4.cell? ⟨p7, 1, none⟩ = some (.int .i64 0) := U07.out.c 1 rfl
        have c72 : W4.cell? ⟨p7, 2, none⟩ = some (.int .i64 ((pw a : Nat) : Int)) := U07.out.c 2 rfl
        have c80 : W4.cell? ⟨p8, 0, none⟩ = some (.int .i64 0) := U08.out.c 0 rfl
        have c81 : W4.cell? ⟨p8, 1, none⟩ = some (.int .i64 ((pw b : Nat) : Int)) := U08.out.c 1 rfl
        have c82 : W4.cell? ⟨p8, 2, none⟩ = some (.int .i64 0) := U08.out.c 2 rfl
        have c90 : W4.cell? ⟨p9, 0, none⟩ = some (.int .i64 0) := U09.out.c 0 rfl
        have c91 : W4.cell? ⟨p9, 1, none⟩ = some (.int .i64 0) := U09.out.c 1 rfl
        have c92 : W4.cell? ⟨p9, 2, none⟩ = some (.int .i64 ((pw b : Nat) : Int)) := U09.out.c 2 rfl
        have lg := U0g.out.lt
        have lt := U0t.out.lt
        have l5 := U05.out.lt
        have ll6 := U06.out.lt
        have ll7 := U07.out.lt
        have l8 := U08.out.lt
        have l9 := U09.out.lt
        have ft := U0t.out.f
        go_upto_region 25 with (fail)
        have yc51 : W4.drew.cell? ⟨w1.heap.size, 1, none⟩ = some (.slice (some ⟨gx, 0, none⟩) n cx) := c51
        have ycg2 : W4.drew.cell? ⟨w.heap.size, 2, none⟩ = some (.int .i64 (b : Int)) := cg2
        have yc70 : W4.drew.cell? ⟨p7, 0, none⟩ = some (.int .i64 0) := c70
        have yc71 : W4.drew.cell? ⟨p7, 1, none⟩ = some (.int .i64 0) := c71
        have yc72 : W4.drew.cell? ⟨p7, 2, none⟩ = some (.int .i64 ((pw a : Nat) : Int)) := c72
        have yc80 : W4.drew.cell? ⟨p8, 0, none⟩ = some (.int .i64 0) := c80
        have yc81 : W4.drew.cell? ⟨p8, 1, none⟩ = some (.int .i64 ((pw b : Nat) : Int)) := c81
        have yc82 : W4.drew.cell? ⟨p8, 2, none⟩ = some (.int .i64 0) := c82
        refine wp_region_x (fun w' => w'.cell? ⟨w1.heap.size, 1, none⟩ = some (.slice (some ⟨gx, 0, none⟩) n cx) ∧ w'.cell? ⟨w.heap.size, 2, none⟩ = some (.int .i64 (b : Int)) ∧ w'.cell? ⟨p7, 0, none⟩ = some (.int .i64 0) ∧ w'.cell? ⟨p7, 1, none⟩ = some (.int .i64 0) ∧ w'.cell? ⟨p7, 2, none⟩ = some (.int .i64 ((pw a : Nat) : Int)) ∧ w'.cell? ⟨p8, 0, none⟩ = some (.int .i64 0) ∧ w'.cell? ⟨p8, 1, none⟩ = some (.int .i64 ((pw b : Nat) : Int)) ∧ w'.cell? ⟨p8, 2, none⟩ = some (.int .i64 0)) 1000 (by kernel_rfl) ⟨yc51, ycg2, yc70, yc71, yc72, yc80, yc81, yc82⟩ (fun hS0 => ?_)
        refine wpAnyX_take (i := 0) (oi := _) (v := ?_) rfl (by kernel_rfl) (by kernel_rfl) (by kernel_rfl) (by kernel_rfl) (fun _ _ _ h => h) (Or.inl ⟨by rfl, ?_⟩) hS0 ?_
        rotate_left 1
        · (intro w hSw; (try dsimp only at hSw); go_simp; (try with_reducible rfl))
        try simp only [Act.put, List.setIfInBounds_toArray, List.set_cons_zero, List.set_cons_succ]
        refine wpAnyX_take (i := 1) (oi := _) (v := ?_) rfl (by kernel_rfl) (by kernel_rfl) (by kernel_rfl) (by kernel_rfl) (fun _ _ _ h => h) (Or.inl ⟨by rfl, ?_⟩) hS0 ?_
        rotate_left 1
        · (intro w hSw; (try dsimp only at hSw); go_simp; (try with_reducible rfl))
        try simp only [Act.put, List.setIfInBounds_toArray, List.set_cons_zero, List.set_cons_succ]
        refine wpAnyX_take (i := 2) (oi := _) (v := ?_) rfl (by kernel_rfl) (by kernel_rfl) (by kernel_rfl) (by kernel_rfl) (fun _ _ _ h => h) (Or.inl ⟨by rfl, ?_⟩) hS0 ?_
        rotate_left 1
        · (intro w hSw; (try dsimp only at hSw); go_simp; (try with_reducible rfl))
        try simp only [Act.put, List.setIfInBounds_toArray, List.set_cons_zero, List.set_cons_succ]
        refine wpAnyX_take (i := 3) (oi := _) (v := ?_) rfl (by kernel_rfl) (by kernel_rfl) (by kernel_rfl) (by kernel_rfl) (fun _ _ _ h => h) (Or.inl ⟨by rfl, ?_⟩) hS0 ?_
        rotate_left 1
        · (intro w hSw; (try dsimp only at hSw); go_simp; (try with_reducible rfl))
        try simp only [Act.put, List.setIfInBounds_toArray, List.set_cons_zero, List.set_cons_succ]
        refine wpAnyX_take (i := 4) (oi := _) (v := ?_) rfl (by kernel_rfl) (by kernel_rfl) (by kernel_rfl) (by kernel_rfl) (fun _ _ _ h => h) (Or.inl ⟨by rfl, ?_⟩) hS0 ?_
        rotate_left 1
        · (intro w hSw; (try dsimp only at hSw); go_simp; (try with_reducible rfl))
        try simp only [Act.put, List.setIfInBounds_toArray, List.set_cons_zero, List.set_cons_succ]
        refine wpAnyX_take (i := 5) (oi := _) (v := ?_) rfl (by kernel_rfl) (by kernel_rfl) (by kernel_rfl) (by kernel_rfl) (fun _ _ _ h => h) (Or.inl ⟨by rfl, ?_⟩) hS0 ?_
        rotate_left 1
        · (intro w hSw; (try dsimp only at hSw); go_simp; (try with_reducible rfl))
        try simp only [Act.put, List.setIfInBounds_toArray, List.set_cons_zero, List.set_cons_succ]
        refine wpAnyX_one (i := 6) (o := _) rfl (by kernel_rfl) (fun K hK => ?_)
        go_simp
        refine (lm_zx q5 ha hb hab _).mono ?_
        rintro ee w91 ⟨rfl, hb9⟩
        have k9 : Below W4.heap.size W4 w91 := ⟨hb9.os, hb9.tape, hb9.output, hb9.size, hb9.block⟩
        have hz9 := k9.size
        refine hK.out _ _ (fun _ => ?_) (fun hS1 => ?_)
        · exact ⟨kcl hb9 (hS0.1), kcl hb9 (hS0.2.1), kcl hb9 (hS0.2.2.1), kcl hb9 (hS0.2.2.2.1), kcl hb9 (hS0.2.2.2.2.1), kcl hb9 (hS0.2.2.2.2.2.1), kcl hb9 (hS0.2.2.2.2.2.2.1), kcl hb9 (hS0.2.2.2.2.2.2.2)⟩
        clear hK K
        have hS1 := hS1 (by decide)
        try simp only [Act.put, List.setIfInBounds_toArray, List.set_cons_zero, List.set_cons_succ]
        refine wpAnyX_take (i := 7) (oi := _) (v := ?_) rfl (by kernel_rfl) (by kernel_rfl) (by kernel_rfl) (by kernel_rfl) (fun _ _ _ h => h) (Or.inl ⟨by rfl, ?_⟩) hS1 ?_
        rotate_left 1
        · (intro w hSw; (try dsimp only at hSw); go_simp; (try with_reducible rfl))
        change wpAnyX _ _ _ _ _ _ _ _ (Act.put _ (some 135) _) _
        try simp only [Act.put, List.setIfInBounds_toArray, List.set_cons_zero, List.set_cons_succ]
        refine wpAnyX_one (i := 8) (o := _) rfl (by kernel_rfl) (fun K hK => ?_)
        have M9 := U0Hgx.out.mono k9
        obtain ⟨m0, m1, m2⟩ := Bs.atPauli (k := b) (x := genX b) M9 (by rw [List.getElem?_set_ne hab]; exact tab_get hb)
        have fm := M9.fr
        have lm := M9.lt
        go_simp
        refine hK.out _ _ (fun _ => ?_) (fun hS2 => ?_)
        · exact ⟨kclS3 (by omega) (hS1.1), kclS3 (by omega) (hS1.2.1), kclS3 (by omega) (hS1.2.2.1), kclS3 (by omega) (hS1.2.2.2.1), kclS3 (by omega) (hS1.2.2.2.2.1), kclS3 (by omega) (hS1.2.2.2.2.2.1), kclS3 (by omega) (hS1.2.2.2.2.2.2.1), kclS3 (by omega) (hS1.2.2.2.2.2.2.2)⟩
        clear hK K
        have hS2 := hS2 (by decide)
        try simp only [Act.put, List.setIfInBounds_toArray, List.set_cons_zero, List.set_cons_succ]
        refine wpAnyX_done (by kernel_rfl) ?_ _
        obtain ⟨W5, hW⟩ : ∃ W : World, W = ((w91.setCell ⟨gx, b * 3, none⟩ (.int .i64 0)).setCell ⟨gx, b * 3 + 1, none⟩ (.int .i64 ((pw b : Nat) : Int))).setCell ⟨gx, b * 3 + 2, none⟩ (.int .i64 ((pw a : Nat) : Int)) := ⟨_, rfl⟩
        have U1g : Hid (Bb W5 (w.heap.size) 116 #[.int .i64 ((10 : Nat) : Int), .int .i64 (a : Int), .int .i64 (b : Int)]) := by show Bb _ _ _ _; rw [hW]; exact (((U0g.out.mono k9).far (by omega)).far (by omega)).far (by omega)
        have U1t : Hid (Bb W5 (w.heap.size + 1) 53 #[.int .i64 0, .slice none 0 0, .slice none 0 0]) := by show Bb _ _ _ _; rw [hW]; exact (((U0t.out.mono k9).far (by omega)).far (by omega)).far (by omega)
        have U15 : Hid (Bb W5 (w1.heap.size) 53 #[.int .i64 (n : Int), .slice (some ⟨gx, 0, none⟩) n cx, .slice (some ⟨gz, 0, none⟩) n cz]) := by show Bb _ _ _ _; rw [hW]; exact (((U05.out.mono k9).far (by omega)).far (by omega)).far (by omega)
        have U16 : Hid (Bb W5 (p6) 43 #[.int .i64 0, .int .i64 ((pw a : Nat) : Int), .int .i64 0]) := by show Bb _ _ _ _; rw [hW]; exact (((U06.out.mono k9).far (by omega)).far (by omega)).far (by omega)
        have U17 : Hid (Bb W5 (p7) 43 #[.int .i64 0, .int .i64 0, .int .i64 ((pw a : Nat) : Int)]) := by show Bb _ _ _ _; rw [hW]; exact (((U07.out.mono k9).far (by omega)).far (by omega)).far (by omega)
        have U18 : Hid (Bb W5 (p8) 43 #[.int .i64 0, .int .i64 ((pw b : Nat) : Int), .int .i64 0]) := by show Bb _ _ _ _; rw [hW]; exact (((U08.out.mono k9).far (by omega)).far (by omega)).far (by omega)
        have U19 : Hid (Bb W5 (p9) 43 #[.int .i64 0, .int .i64 0, .int .i64 ((pw b : Nat) : Int)]) := by show Bb _ _ _ _; rw [hW]; exact (((U09.out.mono k9).far (by omega)).far (by omega)).far (by omega)
        have U1Hgx : Hid (Bs pauliE W5 gx 43 (((tab n genX).set a (pv 0 (pw a) (pw b))).set b (pv 0 (pw b) (pw a)))) := by show Bs _ _ _ _ _; rw [hW]; exact Bs.stPauli (xs := (tab n genX).set a (pv 0 (pw a) (pw b))) (k := b) (U0Hgx.out.mono k9) (pv 0 (pw b) (pw a)) (by rw [List.length_set, tab_len]; exact hb)
        have U1Hgz : Hid (Bs pauliE W5 gz 43 (tab n genZ)) := by show Bs _ _ _ _ _; rw [hW]; exact (((U0Hgz.out.mono k9).far (by show gz ≠ gx; omega) _).far (by show gz ≠ gx; omega) _).far (by show gz ≠ gx; omega) _
        have hBU1 : Below w.heap.size w W5 := by
          have h9 := chn hBU0 k9 (hBU0.size)
          rw [hW]; exact Below.setCell (Below.setCell (Below.setCell h9 (by show w.heap.size ≤ gx; omega) _) (by show w.heap.size ≤ gx; omega) _) (by show w.heap.size ≤ gx; omega) _
        rw [← hW]
        clear hW k9 hb9 hz9 M9 m0 m1 m2 fm lm hS0 hS1 hS2
        clear cg0 cg1 cg2 ct0 ct1 ct2 c50 c51 c52 c60 c61 c62 c70 c71 c72 c80 c81 c82 c90 c91 c92 lg lt l5 ll6 ll7 l8 l9 ft
        have cg0 : W5.cell? ⟨w.heap.size, 0, none⟩ = some (.int .i64 ((10 : Nat) : Int)) := U1g.out.c 0 rfl
        have cg1 : W5.cell? ⟨w.heap.size, 1, none⟩ = some (.int .i64 (a : Int)) := U1g.out.c 1 rfl
        have cg2 : W5.cell? ⟨w.heap.size, 2, none⟩ = some (.int .i64 (b : Int)) := U1g.out.c 2 rfl
        have ct0 : W5.cell? ⟨w.heap.size + 1, 0, none⟩ = some (.int .i64 0) := U1t.out.c 0 rfl
        have ct1 : W5.cell? ⟨w.heap.size + 1, 1, none⟩ = some (.slice none 0 0) := U1t.out.c 1 rfl
        have ct2 : W5.cell? ⟨w.heap.size + 1, 2, none⟩ = some (.slice none 0 0) := U1t.out.c 2 rfl
        have c50 : W5.cell? ⟨w1.heap.size, 0, none⟩ = some (.int .i64 (n : Int)) := U15.out.c 0 rfl
        have c51 : W5.cell? ⟨w1.heap.size, 1, none⟩ = some (.slice (some ⟨gx, 0, none⟩) n cx) := U15.out.c 1 rfl
        have c52 : W5.cell? ⟨w1.heap.size, 2, none⟩ = some (.slice (some ⟨gz, 0, none⟩) n cz) := U15.out.c 2 rfl
        have c60 : W5.cell? ⟨p6, 0, none⟩ = some (.int .i64 0) := U16.out.c 0 rfl
        have c61 : W5.cell? ⟨p6, 1, none⟩ = some (.int .i64 ((pw a : Nat) : Int)) := U16.out.c 1 rfl
        have c62 : W5.cell? ⟨p6, 2, none⟩ = some (.int .i64 0) := U16.out.c 2 rfl
        have c70 : W5.cell? ⟨p7, 0, none⟩ = some (.int .i64 0) := U17.out.c 0 rfl
        have c71 : W5.cell? ⟨p7, 1, none⟩ = some (.int .i64 0) := U17.out.c 1 rfl
        have c72 : W5.cell? ⟨p7, 2, none⟩ = some (.int .i64 ((pw a : Nat) : Int)) := U17.out.c 2 rfl
        have c80 : W5.cell? ⟨p8, 0, none⟩ = some (.int .i64 0) := U18.out.c 0 rfl
        have c81 : W5.cell? ⟨p8, 1, none⟩ = some (.int .i64 ((pw b : Nat) : Int)) := U18.out.c 1 rfl
        have c82 : W5.cell? ⟨p8, 2, none⟩ = some (.int .i64 0) := U18.out.c 2 rfl
        have c90 : W5.cell? ⟨p9, 0, none⟩ = some (.int .i64 0) := U19.out.c 0 rfl
        have c91 : W5.cell? ⟨p9, 1, none⟩ = some (.int .i64 0) := U19.out.c 1 rfl
        have c92 : W5.cell? ⟨p9, 2, none⟩ = some (.int .i64 ((pw b : Nat) : Int)) := U19.out.c 2 rfl
        have lg := U1g.out.lt
        have lt := U1t.out.lt
        have l5 := U15.out.lt
        have ll6 := U16.out.lt
        have ll7 := U17.out.lt
        have l8 := U18.out.lt
        have l9 := U19.out.lt
        have ft := U1t.out.f
        go_upto_region 31 with (fail)
        (repeat (first | go_values | go_skip | go_guarded | go_step | go_upon))
        refine bodyPost_ret (v := tableauV n (some ⟨gx, 0, none⟩) n cx (some ⟨gz, 0, none⟩) n cz) (by first | (simp [results, Try.results139, go_sem, *]; done) | (simp (disch := (first | omega | (simp; done) | (simp; omega))) [results, Try.results139, go_sem, *]; done) | (simp only [results, Try.results139]; go_simp; done)) rfl ⟨gx, cx, gz, cz, rfl, ?_, ?_, ?_⟩
        · rw [show tab n (gtX 10 a b) = ((tab n genX).set a (pv 0 (pw a) (pw b))).set b (pv 0 (pw b) (pw a)) from by rw [tab_set (n := n) (f := genX) (a := a) (v := pv 0 (pw a) (pw b)) (g := fun q => if q = a then pv 0 (pw a) (pw b) else genX q) (by simp) (fun q h1 h2 => by simp [h2]), tab_set (g := gtX 10 a b) (by simp [pw, hab, hab.symm, gtX]) (fun q h1 h2 => by simp [gtX, pw, h2])]]; exact ((U1Hgx.out.far (by show gx ≠ w.heap.size + 1; omega) _).far (by show gx ≠ w.heap.size + 1; omega) _).far (by show gx ≠ w.heap.size + 1; omega) _
        · show Bs _ _ _ _ (tab n genZ); exact ((U1Hgz.out.far (by show gz ≠ w.heap.size + 1; omega) _).far (by show gz ≠ w.heap.size + 1; omega) _).far (by show gz ≠ w.heap.size + 1; omega) _
        · (repeat' (first | (with_reducible exact Below.refl _ _) | (with_reducible assumption) | (with_reducible refine Below.alloc ?_ ?_ _) | (with_reducible refine Below.drew ?_) | (with_reducible refine bdN ?_ _) | (with_reducible refine Below.setCell ?_ ?_ _) | (with_reducible refine chn ?_ (by assumption) ?_) | omega | (simp; done) | (simp; omega)))
      · have hab := hab (by decide) (by decide)
        obtain ⟨y0, y1, y2⟩ := Bs.atPauli (k := b) (x := genX b) HVX.out (tab_get hb)
        obtain ⟨u0, u1, u2⟩ := Bs.atPauli (k := b) (x := genZ b) HVZ.out (tab_get hb)
        clear e1 e2 i1 Vg V5 
        go_upto_region 31 with (fail)
        (repeat (first | go_values | go_skip | go_guarded | go_step | go_upon))
        refine bodyPost_ret (v := tableauV n (some ⟨gx, 0, none⟩) n cx (some ⟨gz, 0, none⟩) n cz) (by first | (simp [results, Try.results139, go_sem, *]; done) | (simp (disch := (first | omega | (simp; done) | (simp; omega))) [results, Try.results139, go_sem, *]; done) | (simp only [results, Try.results139]; go_simp; done)) rfl ⟨gx, cx, gz, cz, rfl, ?_, ?_, ?_⟩
        · have R := HVX.out
          rw [show tab n (gtX 11 a b) = ((tab n genX).set a (genX b)).set b (genX a) from by rw [tab_set (n := n) (f := genX) (a := a) (v := genX b) (g := fun q => if q = a then genX b else genX q) (by simp) (fun q h1 h2 => by simp [h2]), tab_set (g := gtX 11 a b) (by simp [hab, hab.symm, gtX]) (fun q h1 h2 => by simp [gtX, h2])]]; refine Bs.far ?_ (by show gx ≠ w.heap.size + 1; omega) _; refine Bs.far ?_ (by show gx ≠ w.heap.size + 1; omega) _; refine Bs.far ?_ (by show gx ≠ w.heap.size + 1; omega) _; refine Bs.far ?_ (by show gx ≠ gz; omega) _; refine Bs.far ?_ (by show gx ≠ gz; omega) _; refine Bs.far ?_ (by show gx ≠ gz; omega) _; refine Bs.far ?_ (by show gx ≠ gz; omega) _; refine Bs.far ?_ (by show gx ≠ gz; omega) _; refine Bs.far ?_ (by show gx ≠ gz; omega) _; refine Bs.stPauli (xs := ((tab n genX).set a (genX b))) (k := b) ?_ (genX a) (by rw [List.length_set, tab_len]; exact hb); refine Bs.stPauli (xs := (tab n genX)) (k := a) ?_ (genX b) (by rw [tab_len]; exact ha); exact R
        · have R := HVZ.out
          rw [show tab n (gtZ 11 a b) = ((tab n genZ).set a (genZ b)).set b (genZ a) from by rw [tab_set (n := n) (f := genZ) (a := a) (v := genZ b) (g := fun q => if q = a then genZ b else genZ q) (by simp) (fun q h1 h2 => by simp [h2]), tab_set (g := gtZ 11 a b) (by simp [hab, hab.symm, gtZ]) (fun q h1 h2 => by simp [gtZ, h2])]]; refine Bs.far ?_ (by show gz ≠ w.heap.size + 1; omega) _; refine Bs.far ?_ (by show gz ≠ w.heap.size + 1; omega) _; refine Bs.far ?_ (by show gz ≠ w.heap.size + 1; omega) _; refine Bs.stPauli (xs := ((tab n genZ).set a (genZ b))) (k := b) ?_ (genZ a) (by rw [List.length_set, tab_len]; exact hb); refine Bs.stPauli (xs := (tab n genZ)) (k := a) ?_ (genZ b) (by rw [tab_len]; exact ha); refine Bs.far ?_ (by show gz ≠ gx; omega) _; refine Bs.far ?_ (by show gz ≠ gx; omega) _; refine Bs.far ?_ (by show gz ≠ gx; omega) _; refine Bs.far ?_ (by show gz ≠ gx; omega) _; refine Bs.far ?_ (by show gz ≠ gx; omega) _; refine Bs.far ?_ (by show gz ≠ gx; omega) _; exact R
        · (repeat' (first | (with_reducible exact Below.refl _ _) | (with_reducible assumption) | (with_reducible refine Below.alloc ?_ ?_ _) | (with_reducible refine Below.drew ?_) | (with_reducible refine bdN ?_ _) | (with_reducible refine Below.setCell ?_ ?_ _) | (with_reducible refine chn ?_ (by assumption) ?_) | omega | (simp; done) | (simp; omega)))
      · clear e1 e2 i1 Vg V5 hab c60 c61 c62 V6 ll6 c70 c71 c72 V7 ll7 c80 c81 c82 V8 l8 c90 c91 c92 V9 l9 cg2 e3 e4 i2 fx x0 x1 x2 fz z0 z1 z2
        go_upto_region 31 with (fail)
        (repeat (first | go_values | go_skip | go_guarded | go_step | go_upon))
        refine bodyPost_ret (v := tableauV n (some ⟨gx, 0, none⟩) n cx (some ⟨gz, 0, none⟩) n cz) (by first | (simp [results, Try.results139, go_sem, *]; done) | (simp (disch := (first | omega | (simp; done) | (simp; omega))) [results, Try.results139, go_sem, *]; done) | (simp only [results, Try.results139]; go_simp; done)) rfl ⟨gx, cx, gz, cz, rfl, ?_, ?_, ?_⟩
        · have R := HVX.out
          show Bs _ _ _ _ (tab n genX); refine Bs.far ?_ (by show gx ≠ w.heap.size + 1; omega) _; refine Bs.far ?_ (by show gx ≠ w.heap.size + 1; omega) _; refine Bs.far ?_ (by show gx ≠ w.heap.size + 1; omega) _; exact R
        · have R := HVZ.out
          show Bs _ _ _ _ (tab n genZ); refine Bs.far ?_ (by show gz ≠ w.heap.size + 1; omega) _; refine Bs.far ?_ (by show gz ≠ w.heap.size + 1; omega) _; refine Bs.far ?_ (by show gz ≠ w.heap.size + 1; omega) _; exact R
        · (repeat' (first | (with_reducible exact Below.refl _ _) | (with_reducible assumption) | (with_reducible refine Below.alloc ?_ ?_ _) | (with_reducible refine Below.drew ?_) | (with_reducible refine bdN ?_ _) | (with_reducible refine Below.setCell ?_ ?_ _) | (with_reducible refine chn ?_ (by assumption) ?_) | omega | (simp; done) | (simp; omega)))

end Go.Proofs.Ytjedpeoafpljhaa.C4
