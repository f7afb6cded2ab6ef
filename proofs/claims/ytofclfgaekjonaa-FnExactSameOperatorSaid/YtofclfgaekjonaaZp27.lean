/- Kt3 -/
import Derived.Test.YtofclfgaekjonaaZp26
namespace Go.Proofs.Ytofclfgaekjonaa
open Go.RowKit RM
set_option linter.unusedVariables false
set_option linter.unusedSimpArgs false
attribute [local irreducible] World.setCell

open GM
set_option maxRecDepth 100000 in
set_option maxHeartbeats 2000000 in
theorem kapplyCX_0 {n c A B : Nat} {p kd : Int} {w : World} (h5 : n ≤ 5) (hA : A < n) (hB : B < n) (h : bitI n c A = 0) (hc : c < 2 ^ n) (p1 : -100 ≤ p) (p2 : p ≤ 100) :
    Calls Try.prog 210 #[.agg #[.int .i64 (n : Int), .int .i64 (c : Int), .int .i64 p], .agg #[.int .i64 kd, .int .i64 (A : Int), .int .i64 (B : Int)]] w fun ee w' => ee = .returned (.agg #[.int .i64 (n : Int), .int .i64 (c : Int), .int .i64 p]) ∧ Below w.heap.size w w' := by
  have hc9 : c < 32 := Nat.lt_of_lt_of_le hc (pow_le h5)
  have hk := h
  clear h
  go_enter Try.func210, Try.ntmps210
  go_wp2_with (fail)
  refine (kbit_0 h5 hA hc9 (bitI_iff.1 hk)).mono ?_
  rintro ee w1 ⟨rfl, hb1⟩
  obtain ⟨hc1, hf1, _⟩ := bcell hb1; have hz1 := hb1.size; (try simp at hz1); (try have hx10 : w.heap.size < w1.heap.size := (by omega)); (try have hx11 : w.heap.size + 1 < w1.heap.size := (by omega)); (try have hx12 : w.heap.size + 1 + 1 < w1.heap.size := (by omega)); (try have hx13 : w.heap.size + 1 + 1 + 1 < w1.heap.size := (by omega)); (try have hx14 : w.heap.size + 1 + 1 + 1 + 1 < w1.heap.size := (by omega))
  clear hk
  go_wp2_with (fail)
  refine bodyPost_ret (v := .agg #[.int .i64 (n : Int), .int .i64 (c : Int), .int .i64 p]) (by first | (simp [results, Try.results210, go_sem, *]; done) | (simp (disch := (first | omega | (simp; done) | (simp; omega))) [results, Try.results210, go_sem, *]; done) | (simp only [results, Try.results210]; go_simp; done)) rfl ⟨rfl, ?_⟩
  (repeat' (first | (with_reducible exact Below.refl _ _) | (with_reducible assumption) | (with_reducible refine Below.alloc ?_ ?_ _) | (with_reducible refine Below.drew ?_) | (with_reducible refine below_drewN ?_ _) | (with_reducible refine Below.setCell ?_ ?_ _) | (with_reducible refine chain ?_ (by assumption) ?_) | omega | (simp; done) | (simp; omega)))

set_option maxRecDepth 100000 in
set_option maxHeartbeats 2000000 in
theorem kapplyCX_1 {n c A B : Nat} {p kd : Int} {w : World} (h5 : n ≤ 5) (hA : A < n) (hB : B < n) (h : bitI n c A = 1) (hc : c < 2 ^ n) (p1 : -100 ≤ p) (p2 : p ≤ 100) :
    Calls Try.prog 210 #[.agg #[.int .i64 (n : Int), .int .i64 (c : Int), .int .i64 p], .agg #[.int .i64 kd, .int .i64 (A : Int), .int .i64 (B : Int)]] w fun ee w' => ee = .returned (.agg #[.int .i64 (n : Int), .int .i64 ((c ^^^ msk n B : Nat) : Int), .int .i64 p]) ∧ Below w.heap.size w w' := by
  have hc9 : c < 32 := Nat.lt_of_lt_of_le hc (pow_le h5)
  have hk : ¬ (c &&& msk n A = 0) := fun h2 => by rw [bitI_iff.2 h2] at h; cases h
  have HK := hid hk
  clear h hk
  go_enter Try.func210, Try.ntmps210
  go_wp2_with (fail)
  refine (kbit_1 h5 hA hc9 HK.out).mono ?_
  rintro ee w1 ⟨rfl, hb1⟩
  obtain ⟨hc1, hf1, _⟩ := bcell hb1; have hz1 := hb1.size; (try simp at hz1); (try have hx10 : w.heap.size < w1.heap.size := (by omega)); (try have hx11 : w.heap.size + 1 < w1.heap.size := (by omega)); (try have hx12 : w.heap.size + 1 + 1 < w1.heap.size := (by omega)); (try have hx13 : w.heap.size + 1 + 1 + 1 < w1.heap.size := (by omega)); (try have hx14 : w.heap.size + 1 + 1 + 1 + 1 < w1.heap.size := (by omega))
  go_wp2_with (fail)
  refine (kflip h5 hB hc9).mono ?_
  rintro ee w2 ⟨rfl, hb2⟩
  obtain ⟨hc2, hf2, _⟩ := bcell hb2; have hz2 := hb2.size; (try simp at hz2); (try have hx20 : w.heap.size < w2.heap.size := (by omega)); (try have hx21 : w.heap.size + 1 < w2.heap.size := (by omega)); (try have hx22 : w.heap.size + 1 + 1 < w2.heap.size := (by omega)); (try have hx23 : w.heap.size + 1 + 1 + 1 < w2.heap.size := (by omega)); (try have hx24 : w.heap.size + 1 + 1 + 1 + 1 < w2.heap.size := (by omega))
  go_wp2_with (fail)
  refine bodyPost_ret (v := .agg #[.int .i64 (n : Int), .int .i64 ((c ^^^ msk n B : Nat) : Int), .int .i64 p]) (by first | (simp [results, Try.results210, go_sem, *]; done) | (simp (disch := (first | omega | (simp; done) | (simp; omega))) [results, Try.results210, go_sem, *]; done) | (simp only [results, Try.results210]; go_simp; done)) rfl ⟨rfl, ?_⟩
  (repeat' (first | (with_reducible exact Below.refl _ _) | (with_reducible assumption) | (with_reducible refine Below.alloc ?_ ?_ _) | (with_reducible refine Below.drew ?_) | (with_reducible refine below_drewN ?_ _) | (with_reducible refine Below.setCell ?_ ?_ _) | (with_reducible refine chain ?_ (by assumption) ?_) | omega | (simp; done) | (simp; omega)))

set_option maxRecDepth 100000 in
set_option maxHeartbeats 2000000 in
theorem kapplyCZ {n c A B : Nat} {p kd : Int} {w : World} (h5 : n ≤ 5) (hA : A < n) (hB : B < n) (hc : c < 2 ^ n) (p1 : -100 ≤ p) (p2 : p ≤ 100) :
    Calls Try.prog 211 #[.agg #[.int .i64 (n : Int), .int .i64 (c : Int), .int .i64 p], .agg #[.int .i64 kd, .int .i64 (A : Int), .int .i64 (B : Int)]] w fun ee w' => ee = .returned (.agg #[.int .i64 (n : Int), .int .i64 (c : Int), .int .i64 (p + ((4 * bitI n c A * bitI n c B : Nat) : Int))]) ∧ Below w.heap.size w w' := by
  have hc9 : c < 32 := Nat.lt_of_lt_of_le hc (pow_le h5)
  have b1 : bitI n c A ≤ 1 := by rcases bitI_01 (n := n) (c := c) (q := A) with h | h <;> omega
  have b2 : ((bitI n c A : Nat) : Int) ≤ 1 := by omega
  have b3 : 0 ≤ ((bitI n c A : Nat) : Int) := by omega
  have d1 : bitI n c B ≤ 1 := by rcases bitI_01 (n := n) (c := c) (q := B) with h | h <;> omega
  have d2 : ((bitI n c B : Nat) : Int) ≤ 1 := by omega
  have d3 : 0 ≤ ((bitI n c B : Nat) : Int) := by omega
  have wq : IntKind.i64.wrap (4 * ((bitI n c A : Nat) : Int)) = 4 * ((bitI n c A : Nat) : Int) := IntWalk.i64_in _ (by omega)
  obtain ⟨t, ht⟩ : ∃ t : Nat, t = 4 * bitI n c A * bitI n c B := ⟨_, rfl⟩
  have t1 : 4 * ((bitI n c A : Nat) : Int) * ((bitI n c B : Nat) : Int) = (t : Int) := by rw [ht]; simp
  have t2 : t ≤ 4 := by
    rw [ht]
    rcases bitI_01 (n := n) (c := c) (q := A) with h | h <;> rcases bitI_01 (n := n) (c := c) (q := B) with h' | h' <;> rw [h, h'] <;> decide
  have t3 : IntKind.i64.wrap (t : Int) = (t : Int) := IntWalk.i64_in _ (by omega)
  have HT := hid ht
  clear ht
  rw [← HT.out]
  go_enter Try.func211, Try.ntmps211
  go_upto_region 1 with (fail)
  obtain ⟨W, hW⟩ : ∃ W : World, W = ((w.alloc (.cells #[.int .i64 (n : Int), .int .i64 (c : Int), .int .i64 p] 128)).alloc (.cells #[.int .i64 kd, .int .i64 (A : Int), .int .i64 (B : Int)] 150)).alloc (.cells #[.int .i64 0, .int .i64 0, .int .i64 0] 128) := ⟨_, rfl⟩
  have hbW : Below w.heap.size w W := by rw [hW]; exact (((Below.refl _ _).alloc (Nat.le_refl _) _).alloc (by simp) _).alloc (by simp; omega) _
  have cX : Bx W w.heap.size 128 #[.int .i64 (n : Int), .int .i64 (c : Int), .int .i64 p] := by rw [hW]; exact ((Bx.new rfl).alloc _).alloc _
  have gX : Bx W (w.heap.size + 1) 150 #[.int .i64 kd, .int .i64 (A : Int), .int .i64 (B : Int)] := by rw [hW]; exact (Bx.new (by simp)).alloc _
  have zX : Bx W (w.heap.size + 1 + 1) 128 #[.int .i64 0, .int .i64 0, .int .i64 0] := by rw [hW]; exact Bx.new (by simp)
  have hzW : w.heap.size + 1 + 1 < W.heap.size := by rw [hW]; simp
  rw [← hW]
  clear hW
  have c0 := cX.c 0 rfl
  have c1 := cX.c 1 rfl
  have c2 := cX.c 2 rfl
  have cl := cX.lt
  have g0 := gX.c 0 rfl
  have g1 := gX.c 1 rfl
  have g2 := gX.c 2 rfl
  have gl := gX.lt
  have yc0 : W.drew.cell? ⟨w.heap.size, 0, none⟩ = some (.int .i64 (n : Int)) := c0
  have yc1 : W.drew.cell? ⟨w.heap.size, 1, none⟩ = some (.int .i64 (c : Int)) := c1
  have yc2 : W.drew.cell? ⟨w.heap.size, 2, none⟩ = some (.int .i64 p) := c2
  have yg0 : W.drew.cell? ⟨w.heap.size + 1, 0, none⟩ = some (.int .i64 kd) := g0
  have yg1 : W.drew.cell? ⟨w.heap.size + 1, 1, none⟩ = some (.int .i64 (A : Int)) := g1
  have yg2 : W.drew.cell? ⟨w.heap.size + 1, 2, none⟩ = some (.int .i64 (B : Int)) := g2
  refine wp_region_x (fun w' => w'.cell? ⟨w.heap.size, 0, none⟩ = some (.int .i64 (n : Int)) ∧ w'.cell? ⟨w.heap.size, 1, none⟩ = some (.int .i64 (c : Int)) ∧ w'.cell? ⟨w.heap.size, 2, none⟩ = some (.int .i64 p) ∧ w'.cell? ⟨w.heap.size + 1, 0, none⟩ = some (.int .i64 kd) ∧ w'.cell? ⟨w.heap.size + 1, 1, none⟩ = some (.int .i64 (A : Int)) ∧ w'.cell? ⟨w.heap.size + 1, 2, none⟩ = some (.int .i64 (B : Int))) 12 (by kernel_rfl) ⟨yc0, yc1, yc2, yg0, yg1, yg2⟩ (fun hS0 => ?_)
  refine wpAnyX_take (i := 0) (oi := _) (v := ?_) rfl (by kernel_rfl) (by kernel_rfl) (by kernel_rfl) (by kernel_rfl) (fun _ _ _ h => h) (Or.inl ⟨by rfl, ?_⟩) hS0 ?_
  rotate_left 1
  · (intro w hSw; (try dsimp only at hSw); go_simp; (try with_reducible rfl))
  try simp only [Act.put, List.setIfInBounds_toArray, List.set_cons_zero, List.set_cons_succ]
  refine wpAnyX_take (i := 1) (oi := _) (v := ?_) rfl (by kernel_rfl) (by kernel_rfl) (by kernel_rfl) (by kernel_rfl) (fun _ _ _ h => h) (Or.inl ⟨by rfl, ?_⟩) hS0 ?_
  rotate_left 1
  · (intro w hSw; (try dsimp only at hSw); go_simp; (try with_reducible rfl))
  try simp only [Act.put, List.setIfInBounds_toArray, List.set_cons_zero, List.set_cons_succ]
  refine wpAnyX_take (i := 2) (oi := _) (v := ?_) rfl (by kernel_rfl) (by kernel_rfl) (by kernel_rfl) (by kernel_rfl) (fun _ _ _ h => h) (Or.inl ⟨by rfl, ?_⟩) hS0 ?_
  rotate_left 1
  · (intro w hSw; (try dsimp only at hSw); go_simp; (try with_reducible rfl))
  try simp only [Act.put, List.setIfInBounds_toArray, List.set_cons_zero, List.set_cons_succ]
  refine wpAnyX_take (i := 3) (oi := _) (v := ?_) rfl (by kernel_rfl) (by kernel_rfl) (by kernel_rfl) (by kernel_rfl) (fun _ _ _ h => h) (Or.inl ⟨by rfl, ?_⟩) hS0 ?_
  rotate_left 1
  · (intro w hSw; (try dsimp only at hSw); go_simp; (try with_reducible rfl))
  try simp only [Act.put, List.setIfInBounds_toArray, List.set_cons_zero, List.set_cons_succ]
  refine wpAnyX_take (i := 6) (oi := _) (v := ?_) rfl (by kernel_rfl) (by kernel_rfl) (by kernel_rfl) (by kernel_rfl) (fun _ _ _ h => h) (Or.inl ⟨by rfl, ?_⟩) hS0 ?_
  rotate_left 1
  · (intro w hSw; (try dsimp only at hSw); go_simp; (try with_reducible rfl))
  try simp only [Act.put, List.setIfInBounds_toArray, List.set_cons_zero, List.set_cons_succ]
  refine wpAnyX_take (i := 7) (oi := _) (v := ?_) rfl (by kernel_rfl) (by kernel_rfl) (by kernel_rfl) (by kernel_rfl) (fun _ _ _ h => h) (Or.inl ⟨by rfl, ?_⟩) hS0 ?_
  rotate_left 1
  · (intro w hSw; (try dsimp only at hSw); go_simp; (try with_reducible rfl))
  try simp only [Act.put, List.setIfInBounds_toArray, List.set_cons_zero, List.set_cons_succ]
  refine wpAnyX_take (i := 8) (oi := _) (v := ?_) rfl (by kernel_rfl) (by kernel_rfl) (by kernel_rfl) (by kernel_rfl) (fun _ _ _ h => h) (Or.inl ⟨by rfl, ?_⟩) hS0 ?_
  rotate_left 1
  · (intro w hSw; (try dsimp only at hSw); go_simp; (try with_reducible rfl))
  try simp only [Act.put, List.setIfInBounds_toArray, List.set_cons_zero, List.set_cons_succ]
  refine wpAnyX_one (i := 4) (o := _) rfl (by kernel_rfl) (fun K hK => ?_)
  go_simp
  refine (kbit h5 hA hc9).mono ?_
  rintro ee v0 ⟨rfl, hbv00⟩
  have hbv0 := undrewK hbv00
  have hzv0 := hbv0.size
  refine hK.out _ _ (fun _ => ?_) (fun hS1 => ?_)
  · exact ⟨kc hbv00 (hS0.1), kc hbv00 (hS0.2.1), kc hbv00 (hS0.2.2.1), kc hbv00 (hS0.2.2.2.1), kc hbv00 (hS0.2.2.2.2.1), kc hbv00 (hS0.2.2.2.2.2)⟩
  clear hK K
  have hS1 := hS1 (by decide)
  try simp only [Act.put, List.setIfInBounds_toArray, List.set_cons_zero, List.set_cons_succ]
  refine wpAnyX_take (i := 5) (oi := _) (v := ?_) rfl (by kernel_rfl) (by kernel_rfl) (by kernel_rfl) (by kernel_rfl) (fun _ _ _ h => h) (Or.inl ⟨by rfl, ?_⟩) hS1 ?_
  rotate_left 1
  · (intro w hSw; (try dsimp only at hSw); go_simp; (try with_reducible rfl))
  try simp only [Act.put, List.setIfInBounds_toArray, List.set_cons_zero, List.set_cons_succ]
  refine wpAnyX_one (i := 9) (o := _) rfl (by kernel_rfl) (fun K hK => ?_)
  go_simp
  refine (kbit h5 hB hc9).mono ?_
  rintro ee v1 ⟨rfl, hbv1⟩
  have hzv1 := hbv1.size
  refine hK.out _ _ (fun _ => ?_) (fun hS2 => ?_)
  · exact ⟨kc hbv1 (hS1.1), kc hbv1 (hS1.2.1), kc hbv1 (hS1.2.2.1), kc hbv1 (hS1.2.2.2.1), kc hbv1 (hS1.2.2.2.2.1), kc hbv1 (hS1.2.2.2.2.2)⟩
  clear hK K
  have hS2 := hS2 (by decide)
  try simp only [Act.put, List.setIfInBounds_toArray, List.set_cons_zero, List.set_cons_succ]
  refine wpAnyX_take (i := 10) (oi := _) (v := ?_) rfl (by kernel_rfl) (by kernel_rfl) (by kernel_rfl) (by kernel_rfl) (fun _ _ _ h => h) (Or.inl ⟨by rfl, ?_⟩) hS2 ?_
  rotate_left 1
  · (intro w hSw; (try dsimp only at hSw); go_simp; (try with_reducible rfl))
  try simp only [Act.put, List.setIfInBounds_toArray, List.set_cons_zero, List.set_cons_succ]
  refine wpAnyX_one (i := 11) (o := _) rfl (by kernel_rfl) (fun K hK => ?_)
  go_simp
  refine (kturn (by omega) (by omega) (by omega) (by omega)).mono ?_
  rintro ee v2 ⟨rfl, hbv2⟩
  have hzv2 := hbv2.size
  refine hK.out _ _ (fun _ => ?_) (fun hS3 => ?_)
  · exact ⟨kc hbv2 (hS2.1), kc hbv2 (hS2.2.1), kc hbv2 (hS2.2.2.1), kc hbv2 (hS2.2.2.2.1), kc hbv2 (hS2.2.2.2.2.1), kc hbv2 (hS2.2.2.2.2.2)⟩
  clear hK K
  have hS3 := hS3 (by decide)
  try simp only [Act.put, List.setIfInBounds_toArray, List.set_cons_zero, List.set_cons_succ]
  refine wpAnyX_one (i := 12) (o := _) rfl (by kernel_rfl) (fun K hK => ?_)
  have dX := (((cX.mono hbv0).mono hbv1).mono hbv2)
  have d0 := dX.c 0 rfl
  have d1 := dX.c 1 rfl
  have d2 := dX.c 2 rfl
  have df := dX.f
  have dl := dX.lt
  have hX := (((gX.mono hbv0).mono hbv1).mono hbv2)
  have h0 := hX.c 0 rfl
  have h1 := hX.c 1 rfl
  have h2 := hX.c 2 rfl
  have hf := hX.f
  have hl := hX.lt
  have eX := (((zX.mono hbv0).mono hbv1).mono hbv2)
  have e0 := eX.c 0 rfl
  have e1 := eX.c 1 rfl
  have e2 := eX.c 2 rfl
  have ef := eX.f
  have el := eX.lt
  have ne1 : w.heap.size ≠ w.heap.size + 1 + 1 := by omega
  have ne2 : w.heap.size + 1 ≠ w.heap.size + 1 + 1 := by omega
  have ne3 : w.heap.size + 1 + 1 ≠ w.heap.size := by omega
  have ne4 : w.heap.size + 1 + 1 ≠ w.heap.size + 1 := by omega
  go_simp
  refine hK.out _ _ (fun h => absurd rfl h) (fun _ => ?_)
  clear hK K
  try simp only [Act.put, List.setIfInBounds_toArray, List.set_cons_zero, List.set_cons_succ]
  refine wpAnyX_done (by kernel_rfl) ?_ _
  go_wp2_with (fail)
  refine bodyPost_ret (v := .agg #[.int .i64 (n : Int), .int .i64 (c : Int), .int .i64 (p + (t : Int))]) (by first | (simp [results, Try.results211, go_sem, *]; done) | (simp (disch := (first | omega | (simp; done) | (simp; omega))) [results, Try.results211, go_sem, *]; done) | (simp only [results, Try.results211]; go_simp; done)) rfl ⟨rfl, ?_⟩
  have chbv0 := chain hbW hbv0 hbW.size
  have chbv1 := chain chbv0 hbv1 chbv0.size
  have chbv2 := chain chbv1 hbv2 chbv1.size
  (repeat' (first | (with_reducible exact Below.refl _ _) | (with_reducible assumption) | (with_reducible refine Below.alloc ?_ ?_ _) | (with_reducible refine Below.drew ?_) | (with_reducible refine below_drewN ?_ _) | (with_reducible refine Below.setCell ?_ ?_ _) | (with_reducible refine chain ?_ (by assumption) ?_) | omega | (simp; done) | (simp; omega)))

set_option maxRecDepth 100000 in
set_option maxHeartbeats 2000000 in
theorem kapplySwap_e {n c A B : Nat} {p kd : Int} {w : World} (h5 : n ≤ 5) (hA : A < n) (hB : B < n) (h : bitI n c A = bitI n c B) (hc : c < 2 ^ n) (p1 : -100 ≤ p) (p2 : p ≤ 100) :
    Calls Try.prog 212 #[.agg #[.int .i64 (n : Int), .int .i64 (c : Int), .int .i64 p], .agg #[.int .i64 kd, .int .i64 (A : Int), .int .i64 (B : Int)]] w fun ee w' => ee = .returned (.agg #[.int .i64 (n : Int), .int .i64 (c : Int), .int .i64 p]) ∧ Below w.heap.size w w' := by
  have hc9 : c < 32 := Nat.lt_of_lt_of_le hc (pow_le h5)
  have hk : bitI n c A = bitI n c B := h
  clear h
  go_enter Try.func212, Try.ntmps212
  go_upto_region 1 with (fail)
  obtain ⟨W, hW⟩ : ∃ W : World, W = ((w.alloc (.cells #[.int .i64 (n : Int), .int .i64 (c : Int), .int .i64 p] 128)).alloc (.cells #[.int .i64 kd, .int .i64 (A : Int), .int .i64 (B : Int)] 150)).alloc (.cells #[.int .i64 0, .int .i64 0, .int .i64 0] 128) := ⟨_, rfl⟩
  have hbW : Below w.heap.size w W := by rw [hW]; exact (((Below.refl _ _).alloc (Nat.le_refl _) _).alloc (by simp) _).alloc (by simp; omega) _
  have cX : Bx W w.heap.size 128 #[.int .i64 (n : Int), .int .i64 (c : Int), .int .i64 p] := by rw [hW]; exact ((Bx.new rfl).alloc _).alloc _
  have gX : Bx W (w.heap.size + 1) 150 #[.int .i64 kd, .int .i64 (A : Int), .int .i64 (B : Int)] := by rw [hW]; exact (Bx.new (by simp)).alloc _
  have zX : Bx W (w.heap.size + 1 + 1) 128 #[.int .i64 0, .int .i64 0, .int .i64 0] := by rw [hW]; exact Bx.new (by simp)
  have hzW : w.heap.size + 1 + 1 < W.heap.size := by rw [hW]; simp
  rw [← hW]
  clear hW
  have c0 := cX.c 0 rfl
  have c1 := cX.c 1 rfl
  have c2 := cX.c 2 rfl
  have cl := cX.lt
  have g0 := gX.c 0 rfl
  have g1 := gX.c 1 rfl
  have g2 := gX.c 2 rfl
  have gl := gX.lt
  have yc0 : W.drew.cell? ⟨w.heap.size, 0, none⟩ = some (.int .i64 (n : Int)) := c0
  have yc1 : W.drew.cell? ⟨w.heap.size, 1, none⟩ = some (.int .i64 (c : Int)) := c1
  have yc2 : W.drew.cell? ⟨w.heap.size, 2, none⟩ = some (.int .i64 p) := c2
  have yg0 : W.drew.cell? ⟨w.heap.size + 1, 0, none⟩ = some (.int .i64 kd) := g0
  have yg1 : W.drew.cell? ⟨w.heap.size + 1, 1, none⟩ = some (.int .i64 (A : Int)) := g1
  have yg2 : W.drew.cell? ⟨w.heap.size + 1, 2, none⟩ = some (.int .i64 (B : Int)) := g2
  refine wp_region_x (fun w' => w'.cell? ⟨w.heap.size, 0, none⟩ = some (.int .i64 (n : Int)) ∧ w'.cell? ⟨w.heap.size, 1, none⟩ = some (.int .i64 (c : Int)) ∧ w'.cell? ⟨w.heap.size, 2, none⟩ = some (.int .i64 p) ∧ w'.cell? ⟨w.heap.size + 1, 0, none⟩ = some (.int .i64 kd) ∧ w'.cell? ⟨w.heap.size + 1, 1, none⟩ = some (.int .i64 (A : Int)) ∧ w'.cell? ⟨w.heap.size + 1, 2, none⟩ = some (.int .i64 (B : Int))) 1000 (by kernel_rfl) ⟨yc0, yc1, yc2, yg0, yg1, yg2⟩ (fun hS0 => ?_)
  refine wpAnyX_take (i := 0) (oi := _) (v := ?_) rfl (by kernel_rfl) (by kernel_rfl) (by kernel_rfl) (by kernel_rfl) (fun _ _ _ h => h) (Or.inl ⟨by rfl, ?_⟩) hS0 ?_
  rotate_left 1
  · (intro w hSw; (try dsimp only at hSw); go_simp; (try with_reducible rfl))
  try simp only [Act.put, List.setIfInBounds_toArray, List.set_cons_zero, List.set_cons_succ]
  refine wpAnyX_take (i := 1) (oi := _) (v := ?_) rfl (by kernel_rfl) (by kernel_rfl) (by kernel_rfl) (by kernel_rfl) (fun _ _ _ h => h) (Or.inl ⟨by rfl, ?_⟩) hS0 ?_
  rotate_left 1
  · (intro w hSw; (try dsimp only at hSw); go_simp; (try with_reducible rfl))
  try simp only [Act.put, List.setIfInBounds_toArray, List.set_cons_zero, List.set_cons_succ]
  refine wpAnyX_take (i := 2) (oi := _) (v := ?_) rfl (by kernel_rfl) (by kernel_rfl) (by kernel_rfl) (by kernel_rfl) (fun _ _ _ h => h) (Or.inl ⟨by rfl, ?_⟩) hS0 ?_
  rotate_left 1
  · (intro w hSw; (try dsimp only at hSw); go_simp; (try with_reducible rfl))
  try simp only [Act.put, List.setIfInBounds_toArray, List.set_cons_zero, List.set_cons_succ]
  refine wpAnyX_take (i := 4) (oi := _) (v := ?_) rfl (by kernel_rfl) (by kernel_rfl) (by kernel_rfl) (by kernel_rfl) (fun _ _ _ h => h) (Or.inl ⟨by rfl, ?_⟩) hS0 ?_
  rotate_left 1
  · (intro w hSw; (try dsimp only at hSw); go_simp; (try with_reducible rfl))
  try simp only [Act.put, List.setIfInBounds_toArray, List.set_cons_zero, List.set_cons_succ]
  refine wpAnyX_take (i := 5) (oi := _) (v := ?_) rfl (by kernel_rfl) (by kernel_rfl) (by kernel_rfl) (by kernel_rfl) (fun _ _ _ h => h) (Or.inl ⟨by rfl, ?_⟩) hS0 ?_
  rotate_left 1
  · (intro w hSw; (try dsimp only at hSw); go_simp; (try with_reducible rfl))
  try simp only [Act.put, List.setIfInBounds_toArray, List.set_cons_zero, List.set_cons_succ]
  refine wpAnyX_take (i := 6) (oi := _) (v := ?_) rfl (by kernel_rfl) (by kernel_rfl) (by kernel_rfl) (by kernel_rfl) (fun _ _ _ h => h) (Or.inl ⟨by rfl, ?_⟩) hS0 ?_
  rotate_left 1
  · (intro w hSw; (try dsimp only at hSw); go_simp; (try with_reducible rfl))
  try simp only [Act.put, List.setIfInBounds_toArray, List.set_cons_zero, List.set_cons_succ]
  refine wpAnyX_one (i := 3) (o := _) rfl (by kernel_rfl) (fun K hK => ?_)
  go_simp
  refine (kbit h5 hA hc9).mono ?_
  rintro ee v0 ⟨rfl, hbv00⟩
  have hbv0 := undrewK hbv00
  have hzv0 := hbv0.size
  refine hK.out _ _ (fun _ => ?_) (fun hS1 => ?_)
  · exact ⟨kc hbv00 (hS0.1), kc hbv00 (hS0.2.1), kc hbv00 (hS0.2.2.1), kc hbv00 (hS0.2.2.2.1), kc hbv00 (hS0.2.2.2.2.1), kc hbv00 (hS0.2.2.2.2.2)⟩
  clear hK K
  have hS1 := hS1 (by decide)
  try simp only [Act.put, List.setIfInBounds_toArray, List.set_cons_zero, List.set_cons_succ]
  refine wpAnyX_one (i := 7) (o := _) rfl (by kernel_rfl) (fun K hK => ?_)
  go_simp
  refine (kbit h5 hB hc9).mono ?_
  rintro ee v1 ⟨rfl, hbv1⟩
  have hzv1 := hbv1.size
  refine hK.out _ _ (fun _ => ?_) (fun hS2 => ?_)
  · exact ⟨kc hbv1 (hS1.1), kc hbv1 (hS1.2.1), kc hbv1 (hS1.2.2.1), kc hbv1 (hS1.2.2.2.1), kc hbv1 (hS1.2.2.2.2.1), kc hbv1 (hS1.2.2.2.2.2)⟩
  clear hK K
  have hS2 := hS2 (by decide)
  try simp only [Act.put, List.setIfInBounds_toArray, List.set_cons_zero, List.set_cons_succ]
  refine wpAnyX_take (i := 8) (oi := _) (v := ?_) rfl (by kernel_rfl) (by kernel_rfl) (by kernel_rfl) (by kernel_rfl) (fun _ _ _ h => h) (Or.inl ⟨by rfl, ?_⟩) hS2 ?_
  rotate_left 1
  · (intro w hSw; (try dsimp only at hSw); go_simp; (try with_reducible rfl))
  change wpAnyX _ _ _ _ _ _ _ _ (Act.put _ (some 13) _) _
  try simp only [Act.put, List.setIfInBounds_toArray, List.set_cons_zero, List.set_cons_succ]
  refine wpAnyX_done (by kernel_rfl) ?_ _
  have dX := ((cX.mono hbv0).mono hbv1)
  have d0 := dX.c 0 rfl
  have d1 := dX.c 1 rfl
  have d2 := dX.c 2 rfl
  have df := dX.f
  have dl := dX.lt
  have hX := ((gX.mono hbv0).mono hbv1)
  have h0 := hX.c 0 rfl
  have h1 := hX.c 1 rfl
  have h2 := hX.c 2 rfl
  have hf := hX.f
  have hl := hX.lt
  have eX := ((zX.mono hbv0).mono hbv1)
  have e0 := eX.c 0 rfl
  have e1 := eX.c 1 rfl
  have e2 := eX.c 2 rfl
  have ef := eX.f
  have el := eX.lt
  have ne1 : w.heap.size ≠ w.heap.size + 1 + 1 := by omega
  have ne2 : w.heap.size + 1 ≠ w.heap.size + 1 + 1 := by omega
  have ne3 : w.heap.size + 1 + 1 ≠ w.heap.size := by omega
  have ne4 : w.heap.size + 1 + 1 ≠ w.heap.size + 1 := by omega
  go_wp2_with fail
  refine bodyPost_ret (v := .agg #[.int .i64 (n : Int), .int .i64 (c : Int), .int .i64 p]) (by first | (simp [results, Try.results212, go_sem, *]; done) | (simp (disch := (first | omega | (simp; done) | (simp; omega))) [results, Try.results212, go_sem, *]; done) | (simp only [results, Try.results212]; go_simp; done)) rfl ⟨rfl, ?_⟩
  have chbv0 := chain hbW hbv0 hbW.size
  have chbv1 := chain chbv0 hbv1 chbv0.size
  (repeat' (first | (with_reducible exact Below.refl _ _) | (with_reducible assumption) | (with_reducible refine Below.alloc ?_ ?_ _) | (with_reducible refine Below.drew ?_) | (with_reducible refine below_drewN ?_ _) | (with_reducible refine Below.setCell ?_ ?_ _) | (with_reducible refine chain ?_ (by assumption) ?_) | omega | (simp; done) | (simp; omega)))

set_option maxRecDepth 100000 in
set_option maxHeartbeats 2000000 in
theorem kapplySwap_n {n c A B : Nat} {p kd : Int} {w : World} (h5 : n ≤ 5) (hA : A < n) (hB : B < n) (h : ¬ (bitI n c A = bitI n c B)) (hc : c < 2 ^ n) (p1 : -100 ≤ p) (p2 : p ≤ 100) :
    Calls Try.prog 212 #[.agg #[.int .i64 (n : Int), .int .i64 (c : Int), .int .i64 p], .agg #[.int .i64 kd, .int .i64 (A : Int), .int .i64 (B : Int)]] w fun ee w' => ee = .returned (.agg #[.int .i64 (n : Int), .int .i64 ((c ^^^ msk n A ^^^ msk n B : Nat) : Int), .int .i64 p]) ∧ Below w.heap.size w w' := by
  have hc9 : c < 32 := Nat.lt_of_lt_of_le hc (pow_le h5)
  have hk : ¬ (bitI n c A = bitI n c B) := h
  have h1 : (((bitI n c A : Nat) : Int) == ((bitI n c B : Nat) : Int)) = false := by simp; omega
  have h2 : ¬ (((bitI n c A : Nat) : Int) = ((bitI n c B : Nat) : Int)) := by omega
  clear h
  go_enter Try.func212, Try.ntmps212
  go_upto_region 1 with (fail)
  obtain ⟨W, hW⟩ : ∃ W : World, W = ((w.alloc (.cells #[.int .i64 (n : Int), .int .i64 (c : Int), .int .i64 p] 128)).alloc (.cells #[.int .i64 kd, .int .i64 (A : Int), .int .i64 (B : Int)] 150)).alloc (.cells #[.int .i64 0, .int .i64 0, .int .i64 0] 128) := ⟨_, rfl⟩
  have hbW : Below w.heap.size w W := by rw [hW]; exact (((Below.refl _ _).alloc (Nat.le_refl _) _).alloc (by simp) _).alloc (by simp; omega) _
  have cX : Bx W w.heap.size 128 #[.int .i64 (n : Int), .int .i64 (c : Int), .int .i64 p] := by rw [hW]; exact ((Bx.new rfl).alloc _).alloc _
  have gX : Bx W (w.heap.size + 1) 150 #[.int .i64 kd, .int .i64 (A : Int), .int .i64 (B : Int)] := by rw [hW]; exact (Bx.new (by simp)).alloc _
  have zX : Bx W (w.heap.size + 1 + 1) 128 #[.int .i64 0, .int .i64 0, .int .i64 0] := by rw [hW]; exact Bx.new (by simp)
  have hzW : w.heap.size + 1 + 1 < W.heap.size := by rw [hW]; simp
  rw [← hW]
  clear hW
  have c0 := cX.c 0 rfl
  have c1 := cX.c 1 rfl
  have c2 := cX.c 2 rfl
  have cl := cX.lt
  have g0 := gX.c 0 rfl
  have g1 := gX.c 1 rfl
  have g2 := gX.c 2 rfl
  have gl := gX.lt
  have yc0 : W.drew.cell? ⟨w.heap.size, 0, none⟩ = some (.int .i64 (n : Int)) := c0
  have yc1 : W.drew.cell? ⟨w.heap.size, 1, none⟩ = some (.int .i64 (c : Int)) := c1
  have yc2 : W.drew.cell? ⟨w.heap.size, 2, none⟩ = some (.int .i64 p) := c2
  have yg0 : W.drew.cell? ⟨w.heap.size + 1, 0, none⟩ = some (.int .i64 kd) := g0
  have yg1 : W.drew.cell? ⟨w.heap.size + 1, 1, none⟩ = some (.int .i64 (A : Int)) := g1
  have yg2 : W.drew.cell? ⟨w.heap.size + 1, 2, none⟩ = some (.int .i64 (B : Int)) := g2
  refine wp_region_x (fun w' => w'.cell? ⟨w.heap.size, 0, none⟩ = some (.int .i64 (n : Int)) ∧ w'.cell? ⟨w.heap.size, 1, none⟩ = some (.int .i64 (c : Int)) ∧ w'.cell? ⟨w.heap.size, 2, none⟩ = some (.int .i64 p) ∧ w'.cell? ⟨w.heap.size + 1, 0, none⟩ = some (.int .i64 kd) ∧ w'.cell? ⟨w.heap.size + 1, 1, none⟩ = some (.int .i64 (A : Int)) ∧ w'.cell? ⟨w.heap.size + 1, 2, none⟩ = some (.int .i64 (B : Int))) 1000 (by kernel_rfl) ⟨yc0, yc1, yc2, yg0, yg1, yg2⟩ (fun hS0 => ?_)
  refine wpAnyX_take (i := 0) (oi := _) (v := ?_) rfl (by kernel_rfl) (by kernel_rfl) (by kernel_rfl) (by kernel_rfl) (fun _ _ _ h => h) (Or.inl ⟨by rfl, ?_⟩) hS0 ?_
  rotate_left 1
  · (intro w hSw; (try dsimp only at hSw); go_simp; (try with_reducible rfl))
  try simp only [Act.put, List.setIfInBounds_toArray, List.set_cons_zero, List.set_cons_succ]
  refine wpAnyX_take (i := 1) (oi := _) (v := ?_) rfl (by kernel_rfl) (by kernel_rfl) (by kernel_rfl) (by kernel_rfl) (fun _ _ _ h => h) (Or.inl ⟨by rfl, ?_⟩) hS0 ?_
  rotate_left 1
  · (intro w hSw; (try dsimp only at hSw); go_simp; (try with_reducible rfl))
  try simp only [Act.put, List.setIfInBounds_toArray, List.set_cons_zero, List.set_cons_succ]
  refine wpAnyX_take (i := 2) (oi := _) (v := ?_) rfl (by kernel_rfl) (by kernel_rfl) (by kernel_rfl) (by kernel_rfl) (fun _ _ _ h => h) (Or.inl ⟨by rfl, ?_⟩) hS0 ?_
  rotate_left 1
  · (intro w hSw; (try dsimp only at hSw); go_simp; (try with_reducible rfl))
  try simp only [Act.put, List.setIfInBounds_toArray, List.set_cons_zero, List.set_cons_succ]
  refine wpAnyX_take (i := 4) (oi := _) (v := ?_) rfl (by kernel_rfl) (by kernel_rfl) (by kernel_rfl) (by kernel_rfl) (fun _ _ _ h => h) (Or.inl ⟨by rfl, ?_⟩) hS0 ?_
  rotate_left 1
  · (intro w hSw; (try dsimp only at hSw); go_simp; (try with_reducible rfl))
  try simp only [Act.put, List.setIfInBounds_toArray, List.set_cons_zero, List.set_cons_succ]
  refine wpAnyX_take (i := 5) (oi := _) (v := ?_) rfl (by kernel_rfl) (by kernel_rfl) (by kernel_rfl) (by kernel_rfl) (fun _ _ _ h => h) (Or.inl ⟨by rfl, ?_⟩) hS0 ?_
  rotate_left 1
  · (intro w hSw; (try dsimp only at hSw); go_simp; (try with_reducible rfl))
  try simp only [Act.put, List.setIfInBounds_toArray, List.set_cons_zero, List.set_cons_succ]
  refine wpAnyX_take (i := 6) (oi := _) (v := ?_) rfl (by kernel_rfl) (by kernel_rfl) (by kernel_rfl) (by kernel_rfl) (fun _ _ _ h => h) (Or.inl ⟨by rfl, ?_⟩) hS0 ?_
  rotate_left 1
  · (intro w hSw; (try dsimp only at hSw); go_simp; (try with_reducible rfl))
  try simp only [Act.put, List.setIfInBounds_toArray, List.set_cons_zero, List.set_cons_succ]
  refine wpAnyX_one (i := 3) (o := _) rfl (by kernel_rfl) (fun K hK => ?_)
  go_simp
  refine (kbit h5 hA hc9).mono ?_
  rintro ee v0 ⟨rfl, hbv00⟩
  have hbv0 := undrewK hbv00
  have hzv0 := hbv0.size
  refine hK.out _ _ (fun _ => ?_) (fun hS1 => ?_)
  · exact ⟨kc hbv00 (hS0.1), kc hbv00 (hS0.2.1), kc hbv00 (hS0.2.2.1), kc hbv00 (hS0.2.2.2.1), kc hbv00 (hS0.2.2.2.2.1), kc hbv00 (hS0.2.2.2.2.2)⟩
  clear hK K
  have hS1 := hS1 (by decide)
  try simp only [Act.put, List.setIfInBounds_toArray, List.set_cons_zero, List.set_cons_succ]
  refine wpAnyX_one (i := 7) (o := _) rfl (by kernel_rfl) (fun K hK => ?_)
  go_simp
  refine (kbit h5 hB hc9).mono ?_
  rintro ee v1 ⟨rfl, hbv1⟩
  have hzv1 := hbv1.size
  refine hK.out _ _ (fun _ => ?_) (fun hS2 => ?_)
  · exact ⟨kc hbv1 (hS1.1), kc hbv1 (hS1.2.1), kc hbv1 (hS1.2.2.1), kc hbv1 (hS1.2.2.2.1), kc hbv1 (hS1.2.2.2.2.1), kc hbv1 (hS1.2.2.2.2.2)⟩
  clear hK K
  have hS2 := hS2 (by decide)
  try simp only [Act.put, List.setIfInBounds_toArray, List.set_cons_zero, List.set_cons_succ]
  refine wpAnyX_take (i := 8) (oi := _) (v := ?_) rfl (by kernel_rfl) (by kernel_rfl) (by kernel_rfl) (by kernel_rfl) (fun _ _ _ h => h) (Or.inl ⟨by rfl, ?_⟩) hS2 ?_
  rotate_left 1
  · (intro w hSw; (try dsimp only at hSw); go_simp; (try with_reducible rfl))
  change wpAnyX _ _ _ _ _ _ _ _ (Act.put _ (some 13) _) _
  try simp only [Act.put, List.setIfInBounds_toArray, List.set_cons_zero, List.set_cons_succ]
  refine wpAnyX_done (by kernel_rfl) ?_ _
  have cX1 := (cX.mono hbv0).mono hbv1
  have gX1 := (gX.mono hbv0).mono hbv1
  have zX1 := (zX.mono hbv0).mono hbv1
  have chbv0 := chain hbW hbv0 hbW.size
  have chbv1 := chain chbv0 hbv1 chbv0.size
  clear cX gX zX c0 c1 c2 g0 g1 g2 hbW hbv0 chbv0
  obtain ⟨cX, gX, zX⟩ : _ ∧ _ ∧ _ := ⟨cX1, gX1, zX1⟩
  clear cX1 gX1 zX1
  have c0 := cX.c 0 rfl
  have c1 := cX.c 1 rfl
  have c2 := cX.c 2 rfl
  have cl := cX.lt
  have g0 := gX.c 0 rfl
  have g1 := gX.c 1 rfl
  have g2 := gX.c 2 rfl
  have gl := gX.lt
  go_wp2_with fail
  have yc0 : v1.drew.cell? ⟨w.heap.size, 0, none⟩ = some (.int .i64 (n : Int)) := c0
  have yc1 : v1.drew.cell? ⟨w.heap.size, 1, none⟩ = some (.int .i64 (c : Int)) := c1
  have yc2 : v1.drew.cell? ⟨w.heap.size, 2, none⟩ = some (.int .i64 p) := c2
  have yg0 : v1.drew.cell? ⟨w.heap.size + 1, 0, none⟩ = some (.int .i64 kd) := g0
  have yg1 : v1.drew.cell? ⟨w.heap.size + 1, 1, none⟩ = some (.int .i64 (A : Int)) := g1
  have yg2 : v1.drew.cell? ⟨w.heap.size + 1, 2, none⟩ = some (.int .i64 (B : Int)) := g2
  refine wp_region_x (fun w' => w'.cell? ⟨w.heap.size, 0, none⟩ = some (.int .i64 (n : Int)) ∧ w'.cell? ⟨w.heap.size, 1, none⟩ = some (.int .i64 (c : Int)) ∧ w'.cell? ⟨w.heap.size, 2, none⟩ = some (.int .i64 p) ∧ w'.cell? ⟨w.heap.size + 1, 0, none⟩ = some (.int .i64 kd) ∧ w'.cell? ⟨w.heap.size + 1, 1, none⟩ = some (.int .i64 (A : Int)) ∧ w'.cell? ⟨w.heap.size + 1, 2, none⟩ = some (.int .i64 (B : Int))) 7 (by kernel_rfl) ⟨yc0, yc1, yc2, yg0, yg1, yg2⟩ (fun hS0 => ?_)
  refine wpAnyX_take (i := 0) (oi := _) (v := ?_) rfl (by kernel_rfl) (by kernel_rfl) (by kernel_rfl) (by kernel_rfl) (fun _ _ _ h => h) (Or.inl ⟨by rfl, ?_⟩) hS0 ?_
  rotate_left 1
  · (intro w hSw; (try dsimp only at hSw); go_simp; (try with_reducible rfl))
  try simp only [Act.put, List.setIfInBounds_toArray, List.set_cons_zero, List.set_cons_succ]
  refine wpAnyX_take (i := 1) (oi := _) (v := ?_) rfl (by kernel_rfl) (by kernel_rfl) (by kernel_rfl) (by kernel_rfl) (fun _ _ _ h => h) (Or.inl ⟨by rfl, ?_⟩) hS0 ?_
  rotate_left 1
  · (intro w hSw; (try dsimp only at hSw); go_simp; (try with_reducible rfl))
  try simp only [Act.put, List.setIfInBounds_toArray, List.set_cons_zero, List.set_cons_succ]
  refine wpAnyX_take (i := 2) (oi := _) (v := ?_) rfl (by kernel_rfl) (by kernel_rfl) (by kernel_rfl) (by kernel_rfl) (fun _ _ _ h => h) (Or.inl ⟨by rfl, ?_⟩) hS0 ?_
  rotate_left 1
  · (intro w hSw; (try dsimp only at hSw); go_simp; (try with_reducible rfl))
  try simp only [Act.put, List.setIfInBounds_toArray, List.set_cons_zero, List.set_cons_succ]
  refine wpAnyX_take (i := 4) (oi := _) (v := ?_) rfl (by kernel_rfl) (by kernel_rfl) (by kernel_rfl) (by kernel_rfl) (fun _ _ _ h => h) (Or.inl ⟨by rfl, ?_⟩) hS0 ?_
  rotate_left 1
  · (intro w hSw; (try dsimp only at hSw); go_simp; (try with_reducible rfl))
  try simp only [Act.put, List.setIfInBounds_toArray, List.set_cons_zero, List.set_cons_succ]
  refine wpAnyX_take (i := 5) (oi := _) (v := ?_) rfl (by kernel_rfl) (by kernel_rfl) (by kernel_rfl) (by kernel_rfl) (fun _ _ _ h => h) (Or.inl ⟨by rfl, ?_⟩) hS0 ?_
  rotate_left 1
  · (intro w hSw; (try dsimp only at hSw); go_simp; (try with_reducible rfl))
  try simp only [Act.put, List.setIfInBounds_toArray, List.set_cons_zero, List.set_cons_succ]
  refine wpAnyX_one (i := 3) (o := _) rfl (by kernel_rfl) (fun K hK => ?_)
  go_simp
  refine (kflip h5 hA hc9).mono ?_
  rintro ee u0 ⟨rfl, hbu00⟩
  have hbu0 := undrewK hbu00
  have hzu0 := hbu0.size
  refine hK.out _ _ (fun _ => ?_) (fun hS1 => ?_)
  · exact ⟨kc hbu00 (hS0.1), kc hbu00 (hS0.2.1), kc hbu00 (hS0.2.2.1), kc hbu00 (hS0.2.2.2.1), kc hbu00 (hS0.2.2.2.2.1), kc hbu00 (hS0.2.2.2.2.2)⟩
  clear hK K
  have hS1 := hS1 (by decide)
  try simp only [Act.put, List.setIfInBounds_toArray, List.set_cons_zero, List.set_cons_succ]
  refine wpAnyX_one (i := 6) (o := _) rfl (by kernel_rfl) (fun K hK => ?_)
  go_simp
  refine (kflip h5 hB (Nat.lt_of_lt_of_le (flip_lt hc hA) (pow_le h5))).mono ?_
  rintro ee u1 ⟨rfl, hbu1⟩
  have hzu1 := hbu1.size
  refine hK.out _ _ (fun _ => ?_) (fun hS2 => ?_)
  · exact ⟨kc hbu1 (hS1.1), kc hbu1 (hS1.2.1), kc hbu1 (hS1.2.2.1), kc hbu1 (hS1.2.2.2.1), kc hbu1 (hS1.2.2.2.2.1), kc hbu1 (hS1.2.2.2.2.2)⟩
  clear hK K
  have hS2 := hS2 (by decide)
  try simp only [Act.put, List.setIfInBounds_toArray, List.set_cons_zero, List.set_cons_succ]
  refine wpAnyX_one (i := 7) (o := _) rfl (by kernel_rfl) (fun K hK => ?_)
  have dX := ((cX.mono hbu0).mono hbu1)
  have d0 := dX.c 0 rfl
  have d1 := dX.c 1 rfl
  have d2 := dX.c 2 rfl
  have df := dX.f
  have dl := dX.lt
  have hX := ((gX.mono hbu0).mono hbu1)
  have h0 := hX.c 0 rfl
  have h1 := hX.c 1 rfl
  have h2 := hX.c 2 rfl
  have hf := hX.f
  have hl := hX.lt
  have eX := ((zX.mono hbu0).mono hbu1)
  have e0 := eX.c 0 rfl
  have e1 := eX.c 1 rfl
  have e2 := eX.c 2 rfl
  have ef := eX.f
  have el := eX.lt
  have ne1 : w.heap.size ≠ w.heap.size + 1 + 1 := by omega
  have ne2 : w.heap.size + 1 ≠ w.heap.size + 1 + 1 := by omega
  have ne3 : w.heap.size + 1 + 1 ≠ w.heap.size := by omega
  have ne4 : w.heap.size + 1 + 1 ≠ w.heap.size + 1 := by omega
  go_simp
  refine hK.out _ _ (fun h => absurd rfl h) (fun _ => ?_)
  clear hK K
  try simp only [Act.put, List.setIfInBounds_toArray, List.set_cons_zero, List.set_cons_succ]
  refine wpAnyX_done (by kernel_rfl) ?_ _
  go_wp2_with fail
  refine bodyPost_ret (v := .agg #[.int .i64 (n : Int), .int .i64 ((c ^^^ msk n A ^^^ msk n B : Nat) : Int), .int .i64 p]) (by first | (simp [results, Try.results212, go_sem, *]; done) | (simp (disch := (first | omega | (simp; done) | (simp; omega))) [results, Try.results212, go_sem, *]; done) | (simp only [results, Try.results212]; go_simp; done)) rfl ⟨rfl, ?_⟩
  have chbu0 := chain chbv1 hbu0 chbv1.size
  have chbu1 := chain chbu0 hbu1 chbu0.size
  (repeat' (first | (with_reducible exact Below.refl _ _) | (with_reducible assumption) | (with_reducible refine Below.alloc ?_ ?_ _) | (with_reducible refine Below.drew ?_) | (with_reducible refine below_drewN ?_ _) | (with_reducible refine Below.setCell ?_ ?_ _) | (with_reducible refine chain ?_ (by assumption) ?_) | omega | (simp; done) | (simp; omega)))

end Go.Proofs.Ytofclfgaekjonaa
