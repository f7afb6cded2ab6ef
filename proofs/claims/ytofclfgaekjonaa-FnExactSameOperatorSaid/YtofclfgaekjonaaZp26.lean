/- Kt2 -/
import Derived.Test.YtofclfgaekjonaaZp15
namespace Go.Proofs.Ytofclfgaekjonaa
open Go.RowKit RM
set_option linter.unusedVariables false
set_option linter.unusedSimpArgs false
attribute [local irreducible] World.setCell

open GM
set_option maxRecDepth 100000 in
set_option maxHeartbeats 2000000 in
theorem kflip {n q c : Nat} {p : Int} {w : World} (h5 : n ≤ 5) (hq : q < n) (hc : c < 32) :
    Calls Try.prog 186 #[.agg #[.int .i64 (n : Int), .int .i64 (c : Int), .int .i64 p], .int .i64 (q : Int)] w fun ee w' => ee = .returned (.agg #[.int .i64 (n : Int), .int .i64 ((c ^^^ msk n q : Nat) : Int), .int .i64 p]) ∧ Below w.heap.size w w' := by
  have hz := bxor hc (msk32 h5 hq)
  go_enter Try.func186, Try.ntmps186
  go_upto_region 1 with (fail)
  obtain ⟨W, hW⟩ : ∃ W : World, W = (w.alloc (.cells #[.int .i64 (n : Int), .int .i64 (c : Int), .int .i64 p] 128)).alloc (.cells #[.int .i64 0, .int .i64 0, .int .i64 0] 128) := ⟨_, rfl⟩
  have hbW : Below w.heap.size w W := by rw [hW]; exact ((Below.refl _ _).alloc (Nat.le_refl _) _).alloc (by simp) _
  have cX : Bx W w.heap.size 128 #[.int .i64 (n : Int), .int .i64 (c : Int), .int .i64 p] := by rw [hW]; exact (Bx.new rfl).alloc _
  have zX : Bx W (w.heap.size + 1) 128 #[.int .i64 0, .int .i64 0, .int .i64 0] := by rw [hW]; exact Bx.new (by simp)
  have hzW : w.heap.size + 1 < W.heap.size := by rw [hW]; simp
  rw [← hW]
  clear hW
  have c0 := cX.c 0 rfl
  have c1 := cX.c 1 rfl
  have c2 := cX.c 2 rfl
  have cl := cX.lt
  have yc0 : W.drew.cell? ⟨w.heap.size, 0, none⟩ = some (.int .i64 (n : Int)) := c0
  have yc1 : W.drew.cell? ⟨w.heap.size, 1, none⟩ = some (.int .i64 (c : Int)) := c1
  have yc2 : W.drew.cell? ⟨w.heap.size, 2, none⟩ = some (.int .i64 p) := c2
  refine wp_region_x (fun w' => w'.cell? ⟨w.heap.size, 0, none⟩ = some (.int .i64 (n : Int)) ∧ w'.cell? ⟨w.heap.size, 1, none⟩ = some (.int .i64 (c : Int)) ∧ w'.cell? ⟨w.heap.size, 2, none⟩ = some (.int .i64 p)) 7 (by kernel_rfl) ⟨yc0, yc1, yc2⟩ (fun hS0 => ?_)
  refine wpAnyX_take (i := 0) (oi := _) (v := ?_) rfl (by kernel_rfl) (by kernel_rfl) (by kernel_rfl) (by kernel_rfl) (fun _ _ _ h => h) (Or.inl ⟨by rfl, ?_⟩) hS0 ?_
  rotate_left 1
  · (intro w hSw; (try dsimp only at hSw); go_simp; (try with_reducible rfl))
  try simp only [Act.put, List.setIfInBounds_toArray, List.set_cons_zero, List.set_cons_succ]
  refine wpAnyX_take (i := 1) (oi := _) (v := ?_) rfl (by kernel_rfl) (by kernel_rfl) (by kernel_rfl) (by kernel_rfl) (fun _ _ _ h => h) (Or.inl ⟨by rfl, ?_⟩) hS0 ?_
  rotate_left 1
  · (intro w hSw; (try dsimp only at hSw); go_simp; (try with_reducible rfl))
  try simp only [Act.put, List.setIfInBounds_toArray, List.set_cons_zero, List.set_cons_succ]
  refine wpAnyX_take (i := 2) (oi := _) (v := ?_) rfl (by kernel_rfl) (by kernel_rfl) (by kernel_rfl) (by kernel_rfl) (fun _ _ _ h => h) (Or.inl ⟨by rfl, ?_⟩) hS0 ?_
  rotate_left 1
  · (intro w hSw; (try dsimp only at hSw); go_simp; (try with_reducible rfl))
  try simp only [Act.put, List.setIfInBounds_toArray, List.set_cons_zero, List.set_cons_succ]
  refine wpAnyX_take (i := 3) (oi := _) (v := ?_) rfl (by kernel_rfl) (by kernel_rfl) (by kernel_rfl) (by kernel_rfl) (fun _ _ _ h => h) (Or.inl ⟨by rfl, ?_⟩) hS0 ?_
  rotate_left 1
  · (intro w hSw; (try dsimp only at hSw); go_simp; (try with_reducible rfl))
  try simp only [Act.put, List.setIfInBounds_toArray, List.set_cons_zero, List.set_cons_succ]
  refine wpAnyX_one (i := 4) (o := _) rfl (by kernel_rfl) (fun K hK => ?_)
  go_simp
  refine (kmask h5 hq).mono ?_
  rintro ee w8 ⟨rfl, hb80⟩
  have hb8 := undrewK hb80
  have hz8 := hb8.size
  refine hK.out _ _ (fun _ => ?_) (fun hS1 => ?_)
  · exact ⟨kc hb80 (hS0.1), kc hb80 (hS0.2.1), kc hb80 (hS0.2.2)⟩
  clear hK K
  have hS1 := hS1 (by decide)
  try simp only [Act.put, List.setIfInBounds_toArray, List.set_cons_zero, List.set_cons_succ]
  refine wpAnyX_take (i := 5) (oi := _) (v := ?_) rfl (by kernel_rfl) (by kernel_rfl) (by kernel_rfl) (by kernel_rfl) (fun _ _ _ h => h) (Or.inl ⟨by rfl, ?_⟩) hS1 ?_
  rotate_left 1
  · (intro w hSw; (try dsimp only at hSw); go_simp; (try with_reducible rfl))
  try simp only [Act.put, List.setIfInBounds_toArray, List.set_cons_zero, List.set_cons_succ]
  refine wpAnyX_take (i := 6) (oi := _) (v := ?_) rfl (by kernel_rfl) (by kernel_rfl) (by kernel_rfl) (by kernel_rfl) (fun _ _ _ h => h) (Or.inl ⟨by rfl, ?_⟩) hS1 ?_
  rotate_left 1
  · (intro w hSw; (try dsimp only at hSw); go_simp; (try with_reducible rfl))
  try simp only [Act.put, List.setIfInBounds_toArray, List.set_cons_zero, List.set_cons_succ]
  refine wpAnyX_one (i := 7) (o := _) rfl (by kernel_rfl) (fun K hK => ?_)
  have cX8 := cX.mono hb8
  have zX8 := zX.mono hb8
  have d0 := cX8.c 0 rfl
  have d1 := cX8.c 1 rfl
  have d2 := cX8.c 2 rfl
  have df := cX8.f
  have dl := cX8.lt
  have e0 := zX8.c 0 rfl
  have e1 := zX8.c 1 rfl
  have e2 := zX8.c 2 rfl
  have ef := zX8.f
  have el := zX8.lt
  have ne1 : w.heap.size ≠ w.heap.size + 1 := by omega
  have ne2 : w.heap.size + 1 ≠ w.heap.size := by omega
  go_simp
  refine hK.out _ _ (fun h => absurd rfl h) (fun _ => ?_)
  clear hK K
  try simp only [Act.put, List.setIfInBounds_toArray, List.set_cons_zero, List.set_cons_succ]
  refine wpAnyX_done (by kernel_rfl) ?_ _
  go_wp2_with (fail)
  refine bodyPost_ret (v := .agg #[.int .i64 (n : Int), .int .i64 ((c ^^^ msk n q : Nat) : Int), .int .i64 p]) (by first | (simp [results, Try.results186, go_sem, *]; done) | (simp (disch := (first | omega | (simp; done) | (simp; omega))) [results, Try.results186, go_sem, *]; done) | (simp only [results, Try.results186]; go_simp; done)) rfl ⟨rfl, ?_⟩
  have hb9 := chain hbW hb8 hbW.size
  (repeat' (first | (with_reducible exact Below.refl _ _) | (with_reducible assumption) | (with_reducible refine Below.alloc ?_ ?_ _) | (with_reducible refine Below.drew ?_) | (with_reducible refine below_drewN ?_ _) | (with_reducible refine Below.setCell ?_ ?_ _) | (with_reducible refine chain ?_ (by assumption) ?_) | omega | (simp; done) | (simp; omega)))

set_option maxRecDepth 100000 in
set_option maxHeartbeats 2000000 in
theorem kturn {n c : Nat} {p s : Int} {w : World} (p1 : -1000 ≤ p) (p2 : p ≤ 1000) (s1 : -1000 ≤ s) (s2 : s ≤ 1000) :
    Calls Try.prog 187 #[.agg #[.int .i64 (n : Int), .int .i64 (c : Int), .int .i64 p], .int .i64 s] w fun ee w' => ee = .returned (.agg #[.int .i64 (n : Int), .int .i64 (c : Int), .int .i64 (p + s)]) ∧ Below w.heap.size w w' := by
  go_enter Try.func187, Try.ntmps187
  go_wp2_with (fail)
  refine bodyPost_ret (v := .agg #[.int .i64 (n : Int), .int .i64 (c : Int), .int .i64 (p + s)]) (by first | (simp [results, Try.results187, go_sem, *]; done) | (simp (disch := (first | omega | (simp; done) | (simp; omega))) [results, Try.results187, go_sem, *]; done) | (simp only [results, Try.results187]; go_simp; done)) rfl ⟨rfl, ?_⟩
  (repeat' (first | (with_reducible exact Below.refl _ _) | (with_reducible assumption) | (with_reducible refine Below.alloc ?_ ?_ _) | (with_reducible refine Below.drew ?_) | (with_reducible refine below_drewN ?_ _) | (with_reducible refine Below.setCell ?_ ?_ _) | (with_reducible refine chain ?_ (by assumption) ?_) | omega | (simp; done) | (simp; omega)))

set_option maxRecDepth 100000 in
set_option maxHeartbeats 2000000 in
theorem kapplyX {n c A B : Nat} {p kd : Int} {w : World} (h5 : n ≤ 5) (hA : A < n) (hc : c < 2 ^ n) (p1 : -100 ≤ p) (p2 : p ≤ 100) :
    Calls Try.prog 150 #[.agg #[.int .i64 (n : Int), .int .i64 (c : Int), .int .i64 p], .agg #[.int .i64 kd, .int .i64 (A : Int), .int .i64 (B : Int)]] w fun ee w' => ee = .returned (.agg #[.int .i64 (n : Int), .int .i64 ((c ^^^ msk n A : Nat) : Int), .int .i64 p]) ∧ Below w.heap.size w w' := by
  have hc9 : c < 32 := Nat.lt_of_lt_of_le hc (pow_le h5)
  go_enter Try.func150, Try.ntmps150
  go_wp2_with (fail)
  refine (kflip h5 hA hc9).mono ?_
  rintro ee w1 ⟨rfl, hb1⟩
  obtain ⟨hc1, hf1, _⟩ := bcell hb1; have hz1 := hb1.size; (try simp at hz1); (try have hx10 : w.heap.size < w1.heap.size := (by omega)); (try have hx11 : w.heap.size + 1 < w1.heap.size := (by omega)); (try have hx12 : w.heap.size + 1 + 1 < w1.heap.size := (by omega)); (try have hx13 : w.heap.size + 1 + 1 + 1 < w1.heap.size := (by omega)); (try have hx14 : w.heap.size + 1 + 1 + 1 + 1 < w1.heap.size := (by omega))
  go_wp2_with (fail)
  refine bodyPost_ret (v := .agg #[.int .i64 (n : Int), .int .i64 ((c ^^^ msk n A : Nat) : Int), .int .i64 p]) (by first | (simp [results, Try.results150, go_sem, *]; done) | (simp (disch := (first | omega | (simp; done) | (simp; omega))) [results, Try.results150, go_sem, *]; done) | (simp only [results, Try.results150]; go_simp; done)) rfl ⟨rfl, ?_⟩
  (repeat' (first | (with_reducible exact Below.refl _ _) | (with_reducible assumption) | (with_reducible refine Below.alloc ?_ ?_ _) | (with_reducible refine Below.drew ?_) | (with_reducible refine below_drewN ?_ _) | (with_reducible refine Below.setCell ?_ ?_ _) | (with_reducible refine chain ?_ (by assumption) ?_) | omega | (simp; done) | (simp; omega)))

set_option maxRecDepth 100000 in
set_option maxHeartbeats 2000000 in
theorem kapplyX2 {n c A B : Nat} {p kd : Int} {w : World} (h5 : n ≤ 5) (hA : A < n) (hc : c < 2 ^ n) (p1 : -1000 ≤ p) (p2 : p ≤ 1000) :
    Calls Try.prog 150 #[.agg #[.int .i64 (n : Int), .int .i64 (c : Int), .int .i64 p], .agg #[.int .i64 kd, .int .i64 (A : Int), .int .i64 (B : Int)]] w fun ee w' => ee = .returned (.agg #[.int .i64 (n : Int), .int .i64 ((c ^^^ msk n A : Nat) : Int), .int .i64 p]) ∧ Below w.heap.size w w' := by
  have hc9 : c < 32 := Nat.lt_of_lt_of_le hc (pow_le h5)
  go_enter Try.func150, Try.ntmps150
  go_wp2_with (fail)
  refine (kflip h5 hA hc9).mono ?_
  rintro ee w1 ⟨rfl, hb1⟩
  obtain ⟨hc1, hf1, _⟩ := bcell hb1; have hz1 := hb1.size; (try simp at hz1); (try have hx10 : w.heap.size < w1.heap.size := (by omega)); (try have hx11 : w.heap.size + 1 < w1.heap.size := (by omega)); (try have hx12 : w.heap.size + 1 + 1 < w1.heap.size := (by omega)); (try have hx13 : w.heap.size + 1 + 1 + 1 < w1.heap.size := (by omega)); (try have hx14 : w.heap.size + 1 + 1 + 1 + 1 < w1.heap.size := (by omega))
  go_wp2_with (fail)
  refine bodyPost_ret (v := .agg #[.int .i64 (n : Int), .int .i64 ((c ^^^ msk n A : Nat) : Int), .int .i64 p]) (by first | (simp [results, Try.results150, go_sem, *]; done) | (simp (disch := (first | omega | (simp; done) | (simp; omega))) [results, Try.results150, go_sem, *]; done) | (simp only [results, Try.results150]; go_simp; done)) rfl ⟨rfl, ?_⟩
  (repeat' (first | (with_reducible exact Below.refl _ _) | (with_reducible assumption) | (with_reducible refine Below.alloc ?_ ?_ _) | (with_reducible refine Below.drew ?_) | (with_reducible refine below_drewN ?_ _) | (with_reducible refine Below.setCell ?_ ?_ _) | (with_reducible refine chain ?_ (by assumption) ?_) | omega | (simp; done) | (simp; omega)))

set_option maxRecDepth 100000 in
set_option maxHeartbeats 2000000 in
theorem kapplyW {n c A B : Nat} {p kd : Int} {w : World} (h5 : n ≤ 5) (hA : A < n) (hc : c < 2 ^ n) (p1 : -100 ≤ p) (p2 : p ≤ 100) :
    Calls Try.prog 213 #[.agg #[.int .i64 (n : Int), .int .i64 (c : Int), .int .i64 p], .agg #[.int .i64 kd, .int .i64 (A : Int), .int .i64 (B : Int)]] w fun ee w' => ee = .returned (.agg #[.int .i64 (n : Int), .int .i64 (c : Int), .int .i64 (p + 1)]) ∧ Below w.heap.size w w' := by
  have hc9 : c < 32 := Nat.lt_of_lt_of_le hc (pow_le h5)
  go_enter Try.func213, Try.ntmps213
  go_wp2_with (fail)
  refine (kturn (by omega) (by omega) (by omega) (by omega)).mono ?_
  rintro ee w1 ⟨rfl, hb1⟩
  obtain ⟨hc1, hf1, _⟩ := bcell hb1; have hz1 := hb1.size; (try simp at hz1); (try have hx10 : w.heap.size < w1.heap.size := (by omega)); (try have hx11 : w.heap.size + 1 < w1.heap.size := (by omega)); (try have hx12 : w.heap.size + 1 + 1 < w1.heap.size := (by omega)); (try have hx13 : w.heap.size + 1 + 1 + 1 < w1.heap.size := (by omega)); (try have hx14 : w.heap.size + 1 + 1 + 1 + 1 < w1.heap.size := (by omega))
  go_wp2_with (fail)
  refine bodyPost_ret (v := .agg #[.int .i64 (n : Int), .int .i64 (c : Int), .int .i64 (p + 1)]) (by first | (simp [results, Try.results213, go_sem, *]; done) | (simp (disch := (first | omega | (simp; done) | (simp; omega))) [results, Try.results213, go_sem, *]; done) | (simp only [results, Try.results213]; go_simp; done)) rfl ⟨rfl, ?_⟩
  (repeat' (first | (with_reducible exact Below.refl _ _) | (with_reducible assumption) | (with_reducible refine Below.alloc ?_ ?_ _) | (with_reducible refine Below.drew ?_) | (with_reducible refine below_drewN ?_ _) | (with_reducible refine Below.setCell ?_ ?_ _) | (with_reducible refine chain ?_ (by assumption) ?_) | omega | (simp; done) | (simp; omega)))

set_option maxRecDepth 100000 in
set_option maxHeartbeats 2000000 in
theorem kapplyZ {n c A B : Nat} {p kd : Int} {w : World} (h5 : n ≤ 5) (hA : A < n) (hc : c < 2 ^ n) (p1 : -100 ≤ p) (p2 : p ≤ 100) :
    Calls Try.prog 152 #[.agg #[.int .i64 (n : Int), .int .i64 (c : Int), .int .i64 p], .agg #[.int .i64 kd, .int .i64 (A : Int), .int .i64 (B : Int)]] w fun ee w' => ee = .returned (.agg #[.int .i64 (n : Int), .int .i64 (c : Int), .int .i64 (p + 4 * ((bitI n c A : Nat) : Int))]) ∧ Below w.heap.size w w' := by
  have hc9 : c < 32 := Nat.lt_of_lt_of_le hc (pow_le h5)
  have b1 : bitI n c A ≤ 1 := by rcases bitI_01 (n := n) (c := c) (q := A) with h | h <;> omega
  have b2 : ((bitI n c A : Nat) : Int) ≤ 1 := by omega
  have b3 : 0 ≤ ((bitI n c A : Nat) : Int) := by omega
  have wq : IntKind.i64.wrap (4 * ((bitI n c A : Nat) : Int)) = 4 * ((bitI n c A : Nat) : Int) := IntWalk.i64_in _ (by omega)
  go_enter Try.func152, Try.ntmps152
  go_upto_region 1 with (fail)
  obtain ⟨W, hW⟩ : ∃ W : World, W = ((w.alloc (.cells #[.int .i64 (n : Int), .int .i64 (c : Int), .int .i64 p] 128)).alloc (.cells #[.int .i64 kd, .int .i64 (A : Int), .int .i64 (B : Int)] 150)).alloc (.cells #[.int .i64 0, .int .i64 0, .int .i64 0] 128) := ⟨_, rfl⟩
  have hbW : Below w.heap.size w W := by rw [hW]; exact (((Below.refl _ _).alloc (Nat.le_refl _) _).alloc (by simp) _).alloc (by simp; omega) _
  have cX : Bx W w.heap.size 128 #[.int .i64 (n : Int), .int .i64 (c : Int), .int .i64 p] := by rw [hW]; exact ((Bx.new rfl).alloc _).alloc _
  have gX : Bx W (w.heap.size + 1) 150 #[.int .i64 kd, .int .i64 (A : Int), .int .i64 (B : Int)] := by rw [hW]; exact (Bx.new (by simp)).alloc _
  have zX : Bx W (w.heap.size + 1 + 1) 128 #[.int .i64 0, .int .i64 0, .int .i64 0] := by rw [hW]; exact Bx.new (by simp)
  have hzW : w.heap.size + 1 + 1 < W.heap.size := by rw [hW]; simp
  rw [← hW]
  clear hW
  have c0 := cX.c 0 rfl
  have c1 := cX.c 1 rfl
  have c2 := cX.c 2 rfl
  have cl := cX.lt
  have g0 := gX.c 0 rfl
  have g1 := gX.c 1 rfl
  have g2 := gX.c 2 rfl
  have gl := gX.lt
  have yc0 : W.drew.cell? ⟨w.heap.size, 0, none⟩ = some (.int .i64 (n : Int)) := c0
  have yc1 : W.drew.cell? ⟨w.heap.size, 1, none⟩ = some (.int .i64 (c : Int)) := c1
  have yc2 : W.drew.cell? ⟨w.heap.size, 2, none⟩ = some (.int .i64 p) := c2
  have yg0 : W.drew.cell? ⟨w.heap.size + 1, 0, none⟩ = some (.int .i64 kd) := g0
  have yg1 : W.drew.cell? ⟨w.heap.size + 1, 1, none⟩ = some (.int .i64 (A : Int)) := g1
  have yg2 : W.drew.cell? ⟨w.heap.size + 1, 2, none⟩ = some (.int .i64 (B : Int)) := g2
  refine wp_region_x (fun w' => w'.cell? ⟨w.heap.size, 0, none⟩ = some (.int .i64 (n : Int)) ∧ w'.cell? ⟨w.heap.size, 1, none⟩ = some (.int .i64 (c : Int)) ∧ w'.cell? ⟨w.heap.size, 2, none⟩ = some (.int .i64 p) ∧ w'.cell? ⟨w.heap.size + 1, 0, none⟩ = some (.int .i64 kd) ∧ w'.cell? ⟨w.heap.size + 1, 1, none⟩ = some (.int .i64 (A : Int)) ∧ w'.cell? ⟨w.heap.size + 1, 2, none⟩ = some (.int .i64 (B : Int))) 7 (by kernel_rfl) ⟨yc0, yc1, yc2, yg0, yg1, yg2⟩ (fun hS0 => ?_)
  refine wpAnyX_take (i := 0) (oi := _) (v := ?_) rfl (by kernel_rfl) (by kernel_rfl) (by kernel_rfl) (by kernel_rfl) (fun _ _ _ h => h) (Or.inl ⟨by rfl, ?_⟩) hS0 ?_
  rotate_left 1
  · (intro w hSw; (try dsimp only at hSw); go_simp; (try with_reducible rfl))
  try simp only [Act.put, List.setIfInBounds_toArray, List.set_cons_zero, List.set_cons_succ]
  refine wpAnyX_take (i := 1) (oi := _) (v := ?_) rfl (by kernel_rfl) (by kernel_rfl) (by kernel_rfl) (by kernel_rfl) (fun _ _ _ h => h) (Or.inl ⟨by rfl, ?_⟩) hS0 ?_
  rotate_left 1
  · (intro w hSw; (try dsimp only at hSw); go_simp; (try with_reducible rfl))
  try simp only [Act.put, List.setIfInBounds_toArray, List.set_cons_zero, List.set_cons_succ]
  refine wpAnyX_take (i := 2) (oi := _) (v := ?_) rfl (by kernel_rfl) (by kernel_rfl) (by kernel_rfl) (by kernel_rfl) (fun _ _ _ h => h) (Or.inl ⟨by rfl, ?_⟩) hS0 ?_
  rotate_left 1
  · (intro w hSw; (try dsimp only at hSw); go_simp; (try with_reducible rfl))
  try simp only [Act.put, List.setIfInBounds_toArray, List.set_cons_zero, List.set_cons_succ]
  refine wpAnyX_take (i := 3) (oi := _) (v := ?_) rfl (by kernel_rfl) (by kernel_rfl) (by kernel_rfl) (by kernel_rfl) (fun _ _ _ h => h) (Or.inl ⟨by rfl, ?_⟩) hS0 ?_
  rotate_left 1
  · (intro w hSw; (try dsimp only at hSw); go_simp; (try with_reducible rfl))
  try simp only [Act.put, List.setIfInBounds_toArray, List.set_cons_zero, List.set_cons_succ]
  refine wpAnyX_one (i := 4) (o := _) rfl (by kernel_rfl) (fun K hK => ?_)
  go_simp
  refine (kbit h5 hA hc9).mono ?_
  rintro ee v0 ⟨rfl, hbv00⟩
  have hbv0 := undrewK hbv00
  have hzv0 := hbv0.size
  refine hK.out _ _ (fun _ => ?_) (fun hS1 => ?_)
  · exact ⟨kc hbv00 (hS0.1), kc hbv00 (hS0.2.1), kc hbv00 (hS0.2.2.1), kc hbv00 (hS0.2.2.2.1), kc hbv00 (hS0.2.2.2.2.1), kc hbv00 (hS0.2.2.2.2.2)⟩
  clear hK K
  have hS1 := hS1 (by decide)
  try simp only [Act.put, List.setIfInBounds_toArray, List.set_cons_zero, List.set_cons_succ]
  refine wpAnyX_take (i := 5) (oi := _) (v := ?_) rfl (by kernel_rfl) (by kernel_rfl) (by kernel_rfl) (by kernel_rfl) (fun _ _ _ h => h) (Or.inl ⟨by rfl, ?_⟩) hS1 ?_
  rotate_left 1
  · (intro w hSw; (try dsimp only at hSw); go_simp; (try with_reducible rfl))
  try simp only [Act.put, List.setIfInBounds_toArray, List.set_cons_zero, List.set_cons_succ]
  refine wpAnyX_one (i := 6) (o := _) rfl (by kernel_rfl) (fun K hK => ?_)
  go_simp
  refine (kturn (by omega) (by omega) (by omega) (by omega)).mono ?_
  rintro ee v1 ⟨rfl, hbv1⟩
  have hzv1 := hbv1.size
  refine hK.out _ _ (fun _ => ?_) (fun hS2 => ?_)
  · exact ⟨kc hbv1 (hS1.1), kc hbv1 (hS1.2.1), kc hbv1 (hS1.2.2.1), kc hbv1 (hS1.2.2.2.1), kc hbv1 (hS1.2.2.2.2.1), kc hbv1 (hS1.2.2.2.2.2)⟩
  clear hK K
  have hS2 := hS2 (by decide)
  try simp only [Act.put, List.setIfInBounds_toArray, List.set_cons_zero, List.set_cons_succ]
  refine wpAnyX_one (i := 7) (o := _) rfl (by kernel_rfl) (fun K hK => ?_)
  have dX := ((cX.mono hbv0).mono hbv1)
  have d0 := dX.c 0 rfl
  have d1 := dX.c 1 rfl
  have d2 := dX.c 2 rfl
  have df := dX.f
  have dl := dX.lt
  have hX := ((gX.mono hbv0).mono hbv1)
  have h0 := hX.c 0 rfl
  have h1 := hX.c 1 rfl
  have h2 := hX.c 2 rfl
  have hf := hX.f
  have hl := hX.lt
  have eX := ((zX.mono hbv0).mono hbv1)
  have e0 := eX.c 0 rfl
  have e1 := eX.c 1 rfl
  have e2 := eX.c 2 rfl
  have ef := eX.f
  have el := eX.lt
  have ne1 : w.heap.size ≠ w.heap.size + 1 + 1 := by omega
  have ne2 : w.heap.size + 1 ≠ w.heap.size + 1 + 1 := by omega
  have ne3 : w.heap.size + 1 + 1 ≠ w.heap.size := by omega
  have ne4 : w.heap.size + 1 + 1 ≠ w.heap.size + 1 := by omega
  go_simp
  refine hK.out _ _ (fun h => absurd rfl h) (fun _ => ?_)
  clear hK K
  try simp only [Act.put, List.setIfInBounds_toArray, List.set_cons_zero, List.set_cons_succ]
  refine wpAnyX_done (by kernel_rfl) ?_ _
  go_wp2_with (fail)
  refine bodyPost_ret (v := .agg #[.int .i64 (n : Int), .int .i64 (c : Int), .int .i64 (p + 4 * ((bitI n c A : Nat) : Int))]) (by first | (simp [results, Try.results152, go_sem, *]; done) | (simp (disch := (first | omega | (simp; done) | (simp; omega))) [results, Try.results152, go_sem, *]; done) | (simp only [results, Try.results152]; go_simp; done)) rfl ⟨rfl, ?_⟩
  have chbv0 := chain hbW hbv0 hbW.size
  have chbv1 := chain chbv0 hbv1 chbv0.size
  (repeat' (first | (with_reducible exact Below.refl _ _) | (with_reducible assumption) | (with_reducible refine Below.alloc ?_ ?_ _) | (with_reducible refine Below.drew ?_) | (with_reducible refine below_drewN ?_ _) | (with_reducible refine Below.setCell ?_ ?_ _) | (with_reducible refine chain ?_ (by assumption) ?_) | omega | (simp; done) | (simp; omega)))

set_option maxRecDepth 100000 in
set_option maxHeartbeats 2000000 in
theorem kapplyS {n c A B : Nat} {p kd : Int} {w : World} (h5 : n ≤ 5) (hA : A < n) (hc : c < 2 ^ n) (p1 : -100 ≤ p) (p2 : p ≤ 100) :
    Calls Try.prog 206 #[.agg #[.int .i64 (n : Int), .int .i64 (c : Int), .int .i64 p], .agg #[.int .i64 kd, .int .i64 (A : Int), .int .i64 (B : Int)]] w fun ee w' => ee = .returned (.agg #[.int .i64 (n : Int), .int .i64 (c : Int), .int .i64 (p + 2 * ((bitI n c A : Nat) : Int))]) ∧ Below w.heap.size w w' := by
  have hc9 : c < 32 := Nat.lt_of_lt_of_le hc (pow_le h5)
  have b1 : bitI n c A ≤ 1 := by rcases bitI_01 (n := n) (c := c) (q := A) with h | h <;> omega
  have b2 : ((bitI n c A : Nat) : Int) ≤ 1 := by omega
  have b3 : 0 ≤ ((bitI n c A : Nat) : Int) := by omega
  have wq : IntKind.i64.wrap (2 * ((bitI n c A : Nat) : Int)) = 2 * ((bitI n c A : Nat) : Int) := IntWalk.i64_in _ (by omega)
  go_enter Try.func206, Try.ntmps206
  go_upto_region 1 with (fail)
  obtain ⟨W, hW⟩ : ∃ W : World, W = ((w.alloc (.cells #[.int .i64 (n : Int), .int .i64 (c : Int), .int .i64 p] 128)).alloc (.cells #[.int .i64 kd, .int .i64 (A : Int), .int .i64 (B : Int)] 150)).alloc (.cells #[.int .i64 0, .int .i64 0, .int .i64 0] 128) := ⟨_, rfl⟩
  have hbW : Below w.heap.size w W := by rw [hW]; exact (((Below.refl _ _).alloc (Nat.le_refl _) _).alloc (by simp) _).alloc (by simp; omega) _
  have cX : Bx W w.heap.size 128 #[.int .i64 (n : Int), .int .i64 (c : Int), .int .i64 p] := by rw [hW]; exact ((Bx.new rfl).alloc _).alloc _
  have gX : Bx W (w.heap.size + 1) 150 #[.int .i64 kd, .int .i64 (A : Int), .int .i64 (B : Int)] := by rw [hW]; exact (Bx.new (by simp)).alloc _
  have zX : Bx W (w.heap.size + 1 + 1) 128 #[.int .i64 0, .int .i64 0, .int .i64 0] := by rw [hW]; exact Bx.new (by simp)
  have hzW : w.heap.size + 1 + 1 < W.heap.size := by rw [hW]; simp
  rw [← hW]
  clear hW
  have c0 := cX.c 0 rfl
  have c1 := cX.c 1 rfl
  have c2 := cX.c 2 rfl
  have cl := cX.lt
  have g0 := gX.c 0 rfl
  have g1 := gX.c 1 rfl
  have g2 := gX.c 2 rfl
  have gl := gX.lt
  have yc0 : W.drew.cell? ⟨w.heap.size, 0, none⟩ = some (.int .i64 (n : Int)) := c0
  have yc1 : W.drew.cell? ⟨w.heap.size, 1, none⟩ = some (.int .i64 (c : Int)) := c1
  have yc2 : W.drew.cell? ⟨w.heap.size, 2, none⟩ = some (.int .i64 p) := c2
  have yg0 : W.drew.cell? ⟨w.heap.size + 1, 0, none⟩ = some (.int .i64 kd) := g0
  have yg1 : W.drew.cell? ⟨w.heap.size + 1, 1, none⟩ = some (.int .i64 (A : Int)) := g1
  have yg2 : W.drew.cell? ⟨w.heap.size + 1, 2, none⟩ = some (.int .i64 (B : Int)) := g2
  refine wp_region_x (fun w' => w'.cell? ⟨w.heap.size, 0, none⟩ = some (.int .i64 (n : Int)) ∧ w'.cell? ⟨w.heap.size, 1, none⟩ = some (.int .i64 (c : Int)) ∧ w'.cell? ⟨w.heap.size, 2, none⟩ = some (.int .i64 p) ∧ w'.cell? ⟨w.heap.size + 1, 0, none⟩ = some (.int .i64 kd) ∧ w'.cell? ⟨w.heap.size + 1, 1, none⟩ = some (.int .i64 (A : Int)) ∧ w'.cell? ⟨w.heap.size + 1, 2, none⟩ = some (.int .i64 (B : Int))) 7 (by kernel_rfl) ⟨yc0, yc1, yc2, yg0, yg1, yg2⟩ (fun hS0 => ?_)
  refine wpAnyX_take (i := 0) (oi := _) (v := ?_) rfl (by kernel_rfl) (by kernel_rfl) (by kernel_rfl) (by kernel_rfl) (fun _ _ _ h => h) (Or.inl ⟨by rfl, ?_⟩) hS0 ?_
  rotate_left 1
  · (intro w hSw; (try dsimp only at hSw); go_simp; (try with_reducible rfl))
  try simp only [Act.put, List.setIfInBounds_toArray, List.set_cons_zero, List.set_cons_succ]
  refine wpAnyX_take (i := 1) (oi := _) (v := ?_) rfl (by kernel_rfl) (by kernel_rfl) (by kernel_rfl) (by kernel_rfl) (fun _ _ _ h => h) (Or.inl ⟨by rfl, ?_⟩) hS0 ?_
  rotate_left 1
  · (intro w hSw; (try dsimp only at hSw); go_simp; (try with_reducible rfl))
  try simp only [Act.put, List.setIfInBounds_toArray, List.set_cons_zero, List.set_cons_succ]
  refine wpAnyX_take (i := 2) (oi := _) (v := ?_) rfl (by kernel_rfl) (by kernel_rfl) (by kernel_rfl) (by kernel_rfl) (fun _ _ _ h => h) (Or.inl ⟨by rfl, ?_⟩) hS0 ?_
  rotate_left 1
  · (intro w hSw; (try dsimp only at hSw); go_simp; (try with_reducible rfl))
  try simp only [Act.put, List.setIfInBounds_toArray, List.set_cons_zero, List.set_cons_succ]
  refine wpAnyX_take (i := 3) (oi := _) (v := ?_) rfl (by kernel_rfl) (by kernel_rfl) (by kernel_rfl) (by kernel_rfl) (fun _ _ _ h => h) (Or.inl ⟨by rfl, ?_⟩) hS0 ?_
  rotate_left 1
  · (intro w hSw; (try dsimp only at hSw); go_simp; (try with_reducible rfl))
  try simp only [Act.put, List.setIfInBounds_toArray, List.set_cons_zero, List.set_cons_succ]
  refine wpAnyX_one (i := 4) (o := _) rfl (by kernel_rfl) (fun K hK => ?_)
  go_simp
  refine (kbit h5 hA hc9).mono ?_
  rintro ee v0 ⟨rfl, hbv00⟩
  have hbv0 := undrewK hbv00
  have hzv0 := hbv0.size
  refine hK.out _ _ (fun _ => ?_) (fun hS1 => ?_)
  · exact ⟨kc hbv00 (hS0.1), kc hbv00 (hS0.2.1), kc hbv00 (hS0.2.2.1), kc hbv00 (hS0.2.2.2.1), kc hbv00 (hS0.2.2.2.2.1), kc hbv00 (hS0.2.2.2.2.2)⟩
  clear hK K
  have hS1 := hS1 (by decide)
  try simp only [Act.put, List.setIfInBounds_toArray, List.set_cons_zero, List.set_cons_succ]
  refine wpAnyX_take (i := 5) (oi := _) (v := ?_) rfl (by kernel_rfl) (by kernel_rfl) (by kernel_rfl) (by kernel_rfl) (fun _ _ _ h => h) (Or.inl ⟨by rfl, ?_⟩) hS1 ?_
  rotate_left 1
  · (intro w hSw; (try dsimp only at hSw); go_simp; (try with_reducible rfl))
  try simp only [Act.put, List.setIfInBounds_toArray, List.set_cons_zero, List.set_cons_succ]
  refine wpAnyX_one (i := 6) (o := _) rfl (by kernel_rfl) (fun K hK => ?_)
  go_simp
  refine (kturn (by omega) (by omega) (by omega) (by omega)).mono ?_
  rintro ee v1 ⟨rfl, hbv1⟩
  have hzv1 := hbv1.size
  refine hK.out _ _ (fun _ => ?_) (fun hS2 => ?_)
  · exact ⟨kc hbv1 (hS1.1), kc hbv1 (hS1.2.1), kc hbv1 (hS1.2.2.1), kc hbv1 (hS1.2.2.2.1), kc hbv1 (hS1.2.2.2.2.1), kc hbv1 (hS1.2.2.2.2.2)⟩
  clear hK K
  have hS2 := hS2 (by decide)
  try simp only [Act.put, List.setIfInBounds_toArray, List.set_cons_zero, List.set_cons_succ]
  refine wpAnyX_one (i := 7) (o := _) rfl (by kernel_rfl) (fun K hK => ?_)
  have dX := ((cX.mono hbv0).mono hbv1)
  have d0 := dX.c 0 rfl
  have d1 := dX.c 1 rfl
  have d2 := dX.c 2 rfl
  have df := dX.f
  have dl := dX.lt
  have hX := ((gX.mono hbv0).mono hbv1)
  have h0 := hX.c 0 rfl
  have h1 := hX.c 1 rfl
  have h2 := hX.c 2 rfl
  have hf := hX.f
  have hl := hX.lt
  have eX := ((zX.mono hbv0).mono hbv1)
  have e0 := eX.c 0 rfl
  have e1 := eX.c 1 rfl
  have e2 := eX.c 2 rfl
  have ef := eX.f
  have el := eX.lt
  have ne1 : w.heap.size ≠ w.heap.size + 1 + 1 := by omega
  have ne2 : w.heap.size + 1 ≠ w.heap.size + 1 + 1 := by omega
  have ne3 : w.heap.size + 1 + 1 ≠ w.heap.size := by omega
  have ne4 : w.heap.size + 1 + 1 ≠ w.heap.size + 1 := by omega
  go_simp
  refine hK.out _ _ (fun h => absurd rfl h) (fun _ => ?_)
  clear hK K
  try simp only [Act.put, List.setIfInBounds_toArray, List.set_cons_zero, List.set_cons_succ]
  refine wpAnyX_done (by kernel_rfl) ?_ _
  go_wp2_with (fail)
  refine bodyPost_ret (v := .agg #[.int .i64 (n : Int), .int .i64 (c : Int), .int .i64 (p + 2 * ((bitI n c A : Nat) : Int))]) (by first | (simp [results, Try.results206, go_sem, *]; done) | (simp (disch := (first | omega | (simp; done) | (simp; omega))) [results, Try.results206, go_sem, *]; done) | (simp only [results, Try.results206]; go_simp; done)) rfl ⟨rfl, ?_⟩
  have chbv0 := chain hbW hbv0 hbW.size
  have chbv1 := chain chbv0 hbv1 chbv0.size
  (repeat' (first | (with_reducible exact Below.refl _ _) | (with_reducible assumption) | (with_reducible refine Below.alloc ?_ ?_ _) | (with_reducible refine Below.drew ?_) | (with_reducible refine below_drewN ?_ _) | (with_reducible refine Below.setCell ?_ ?_ _) | (with_reducible refine chain ?_ (by assumption) ?_) | omega | (simp; done) | (simp; omega)))

set_option maxRecDepth 100000 in
set_option maxHeartbeats 2000000 in
theorem kapplySdg {n c A B : Nat} {p kd : Int} {w : World} (h5 : n ≤ 5) (hA : A < n) (hc : c < 2 ^ n) (p1 : -100 ≤ p) (p2 : p ≤ 100) :
    Calls Try.prog 207 #[.agg #[.int .i64 (n : Int), .int .i64 (c : Int), .int .i64 p], .agg #[.int .i64 kd, .int .i64 (A : Int), .int .i64 (B : Int)]] w fun ee w' => ee = .returned (.agg #[.int .i64 (n : Int), .int .i64 (c : Int), .int .i64 (p + -2 * ((bitI n c A : Nat) : Int))]) ∧ Below w.heap.size w w' := by
  have hc9 : c < 32 := Nat.lt_of_lt_of_le hc (pow_le h5)
  have b1 : bitI n c A ≤ 1 := by rcases bitI_01 (n := n) (c := c) (q := A) with h | h <;> omega
  have b2 : ((bitI n c A : Nat) : Int) ≤ 1 := by omega
  have b3 : 0 ≤ ((bitI n c A : Nat) : Int) := by omega
  have wq : IntKind.i64.wrap (-2 * ((bitI n c A : Nat) : Int)) = -2 * ((bitI n c A : Nat) : Int) := IntWalk.i64_in _ (by omega)
  go_enter Try.func207, Try.ntmps207
  go_upto_region 1 with (fail)
  obtain ⟨W, hW⟩ : ∃ W : World, W = ((w.alloc (.cells #[.int .i64 (n : Int), .int .i64 (c : Int), .int .i64 p] 128)).alloc (.cells #[.int .i64 kd, .int .i64 (A : Int), .int .i64 (B : Int)] 150)).alloc (.cells #[.int .i64 0, .int .i64 0, .int .i64 0] 128) := ⟨_, rfl⟩
  have hbW : Below w.heap.size w W := by rw [hW]; exact (((Below.refl _ _).alloc (Nat.le_refl _) _).alloc (by simp) _).alloc (by simp; omega) _
  have cX : Bx W w.heap.size 128 #[.int .i64 (n : Int), .int .i64 (c : Int), .int .i64 p] := by rw [hW]; exact ((Bx.new rfl).alloc _).alloc _
  have gX : Bx W (w.heap.size + 1) 150 #[.int .i64 kd, .int .i64 (A : Int), .int .i64 (B : Int)] := by rw [hW]; exact (Bx.new (by simp)).alloc _
  have zX : Bx W (w.heap.size + 1 + 1) 128 #[.int .i64 0, .int .i64 0, .int .i64 0] := by rw [hW]; exact Bx.new (by simp)
  have hzW : w.heap.size + 1 + 1 < W.heap.size := by rw [hW]; simp
  rw [← hW]
  clear hW
  have c0 := cX.c 0 rfl
  have c1 := cX.c 1 rfl
  have c2 := cX.c 2 rfl
  have cl := cX.lt
  have g0 := gX.c 0 rfl
  have g1 := gX.c 1 rfl
  have g2 := gX.c 2 rfl
  have gl := gX.lt
  have yc0 : W.drew.cell? ⟨w.heap.size, 0, none⟩ = some (.int .i64 (n : Int)) := c0
  have yc1 : W.drew.cell? ⟨w.heap.size, 1, none⟩ = some (.int .i64 (c : Int)) := c1
  have yc2 : W.drew.cell? ⟨w.heap.size, 2, none⟩ = some (.int .i64 p) := c2
  have yg0 : W.drew.cell? ⟨w.heap.size + 1, 0, none⟩ = some (.int .i64 kd) := g0
  have yg1 : W.drew.cell? ⟨w.heap.size + 1, 1, none⟩ = some (.int .i64 (A : Int)) := g1
  have yg2 : W.drew.cell? ⟨w.heap.size + 1, 2, none⟩ = some (.int .i64 (B : Int)) := g2
  refine wp_region_x (fun w' => w'.cell? ⟨w.heap.size, 0, none⟩ = some (.int .i64 (n : Int)) ∧ w'.cell? ⟨w.heap.size, 1, none⟩ = some (.int .i64 (c : Int)) ∧ w'.cell? ⟨w.heap.size, 2, none⟩ = some (.int .i64 p) ∧ w'.cell? ⟨w.heap.size + 1, 0, none⟩ = some (.int .i64 kd) ∧ w'.cell? ⟨w.heap.size + 1, 1, none⟩ = some (.int .i64 (A : Int)) ∧ w'.cell? ⟨w.heap.size + 1, 2, none⟩ = some (.int .i64 (B : Int))) 7 (by kernel_rfl) ⟨yc0, yc1, yc2, yg0, yg1, yg2⟩ (fun hS0 => ?_)
  refine wpAnyX_take (i := 0) (oi := _) (v := ?_) rfl (by kernel_rfl) (by kernel_rfl) (by kernel_rfl) (by kernel_rfl) (fun _ _ _ h => h) (Or.inl ⟨by rfl, ?_⟩) hS0 ?_
  rotate_left 1
  · (intro w hSw; (try dsimp only at hSw); go_simp; (try with_reducible rfl))
  try simp only [Act.put, List.setIfInBounds_toArray, List.set_cons_zero, List.set_cons_succ]
  refine wpAnyX_take (i := 1) (oi := _) (v := ?_) rfl (by kernel_rfl) (by kernel_rfl) (by kernel_rfl) (by kernel_rfl) (fun _ _ _ h => h) (Or.inl ⟨by rfl, ?_⟩) hS0 ?_
  rotate_left 1
  · (intro w hSw; (try dsimp only at hSw); go_simp; (try with_reducible rfl))
  try simp only [Act.put, List.setIfInBounds_toArray, List.set_cons_zero, List.set_cons_succ]
  refine wpAnyX_take (i := 2) (oi := _) (v := ?_) rfl (by kernel_rfl) (by kernel_rfl) (by kernel_rfl) (by kernel_rfl) (fun _ _ _ h => h) (Or.inl ⟨by rfl, ?_⟩) hS0 ?_
  rotate_left 1
  · (intro w hSw; (try dsimp only at hSw); go_simp; (try with_reducible rfl))
  try simp only [Act.put, List.setIfInBounds_toArray, List.set_cons_zero, List.set_cons_succ]
  refine wpAnyX_take (i := 3) (oi := _) (v := ?_) rfl (by kernel_rfl) (by kernel_rfl) (by kernel_rfl) (by kernel_rfl) (fun _ _ _ h => h) (Or.inl ⟨by rfl, ?_⟩) hS0 ?_
  rotate_left 1
  · (intro w hSw; (try dsimp only at hSw); go_simp; (try with_reducible rfl))
  try simp only [Act.put, List.setIfInBounds_toArray, List.set_cons_zero, List.set_cons_succ]
  refine wpAnyX_one (i := 4) (o := _) rfl (by kernel_rfl) (fun K hK => ?_)
  go_simp
  refine (kbit h5 hA hc9).mono ?_
  rintro ee v0 ⟨rfl, hbv00⟩
  have hbv0 := undrewK hbv00
  have hzv0 := hbv0.size
  refine hK.out _ _ (fun _ => ?_) (fun hS1 => ?_)
  · exact ⟨kc hbv00 (hS0.1), kc hbv00 (hS0.2.1), kc hbv00 (hS0.2.2.1), kc hbv00 (hS0.2.2.2.1), kc hbv00 (hS0.2.2.2.2.1), kc hbv00 (hS0.2.2.2.2.2)⟩
  clear hK K
  have hS1 := hS1 (by decide)
  try simp only [Act.put, List.setIfInBounds_toArray, List.set_cons_zero, List.set_cons_succ]
  refine wpAnyX_take (i := 5) (oi := _) (v := ?_) rfl (by kernel_rfl) (by kernel_rfl) (by kernel_rfl) (by kernel_rfl) (fun _ _ _ h => h) (Or.inl ⟨by rfl, ?_⟩) hS1 ?_
  rotate_left 1
  · (intro w hSw; (try dsimp only at hSw); go_simp; (try with_reducible rfl))
  try simp only [Act.put, List.setIfInBounds_toArray, List.set_cons_zero, List.set_cons_succ]
  refine wpAnyX_one (i := 6) (o := _) rfl (by kernel_rfl) (fun K hK => ?_)
  go_simp
  refine (kturn (by omega) (by omega) (by omega) (by omega)).mono ?_
  rintro ee v1 ⟨rfl, hbv1⟩
  have hzv1 := hbv1.size
  refine hK.out _ _ (fun _ => ?_) (fun hS2 => ?_)
  · exact ⟨kc hbv1 (hS1.1), kc hbv1 (hS1.2.1), kc hbv1 (hS1.2.2.1), kc hbv1 (hS1.2.2.2.1), kc hbv1 (hS1.2.2.2.2.1), kc hbv1 (hS1.2.2.2.2.2)⟩
  clear hK K
  have hS2 := hS2 (by decide)
  try simp only [Act.put, List.setIfInBounds_toArray, List.set_cons_zero, List.set_cons_succ]
  refine wpAnyX_one (i := 7) (o := _) rfl (by kernel_rfl) (fun K hK => ?_)
  have dX := ((cX.mono hbv0).mono hbv1)
  have d0 := dX.c 0 rfl
  have d1 := dX.c 1 rfl
  have d2 := dX.c 2 rfl
  have df := dX.f
  have dl := dX.lt
  have hX := ((gX.mono hbv0).mono hbv1)
  have h0 := hX.c 0 rfl
  have h1 := hX.c 1 rfl
  have h2 := hX.c 2 rfl
  have hf := hX.f
  have hl := hX.lt
  have eX := ((zX.mono hbv0).mono hbv1)
  have e0 := eX.c 0 rfl
  have e1 := eX.c 1 rfl
  have e2 := eX.c 2 rfl
  have ef := eX.f
  have el := eX.lt
  have ne1 : w.heap.size ≠ w.heap.size + 1 + 1 := by omega
  have ne2 : w.heap.size + 1 ≠ w.heap.size + 1 + 1 := by omega
  have ne3 : w.heap.size + 1 + 1 ≠ w.heap.size := by omega
  have ne4 : w.heap.size + 1 + 1 ≠ w.heap.size + 1 := by omega
  go_simp
  refine hK.out _ _ (fun h => absurd rfl h) (fun _ => ?_)
  clear hK K
  try simp only [Act.put, List.setIfInBounds_toArray, List.set_cons_zero, List.set_cons_succ]
  refine wpAnyX_done (by kernel_rfl) ?_ _
  go_wp2_with (fail)
  refine bodyPost_ret (v := .agg #[.int .i64 (n : Int), .int .i64 (c : Int), .int .i64 (p + -2 * ((bitI n c A : Nat) : Int))]) (by first | (simp [results, Try.results207, go_sem, *]; done) | (simp (disch := (first | omega | (simp; done) | (simp; omega))) [results, Try.results207, go_sem, *]; done) | (simp only [results, Try.results207]; go_simp; done)) rfl ⟨rfl, ?_⟩
  have chbv0 := chain hbW hbv0 hbW.size
  have chbv1 := chain chbv0 hbv1 chbv0.size
  (repeat' (first | (with_reducible exact Below.refl _ _) | (with_reducible assumption) | (with_reducible refine Below.alloc ?_ ?_ _) | (with_reducible refine Below.drew ?_) | (with_reducible refine below_drewN ?_ _) | (with_reducible refine Below.setCell ?_ ?_ _) | (with_reducible refine chain ?_ (by assumption) ?_) | omega | (simp; done) | (simp; omega)))

set_option maxRecDepth 100000 in
set_option maxHeartbeats 2000000 in
theorem kapplyT {n c A B : Nat} {p kd : Int} {w : World} (h5 : n ≤ 5) (hA : A < n) (hc : c < 2 ^ n) (p1 : -100 ≤ p) (p2 : p ≤ 100) :
    Calls Try.prog 208 #[.agg #[.int .i64 (n : Int), .int .i64 (c : Int), .int .i64 p], .agg #[.int .i64 kd, .int .i64 (A : Int), .int .i64 (B : Int)]] w fun ee w' => ee = .returned (.agg #[.int .i64 (n : Int), .int .i64 (c : Int), .int .i64 (p + ((bitI n c A : Nat) : Int))]) ∧ Below w.heap.size w w' := by
  have hc9 : c < 32 := Nat.lt_of_lt_of_le hc (pow_le h5)
  have b1 : bitI n c A ≤ 1 := by rcases bitI_01 (n := n) (c := c) (q := A) with h | h <;> omega
  have b2 : ((bitI n c A : Nat) : Int) ≤ 1 := by omega
  have b3 : 0 ≤ ((bitI n c A : Nat) : Int) := by omega
  go_enter Try.func208, Try.ntmps208
  go_upto_region 1 with (fail)
  obtain ⟨W, hW⟩ : ∃ W : World, W = ((w.alloc (.cells #[.int .i64 (n : Int), .int .i64 (c : Int), .int .i64 p] 128)).alloc (.cells #[.int .i64 kd, .int .i64 (A : Int), .int .i64 (B : Int)] 150)).alloc (.cells #[.int .i64 0, .int .i64 0, .int .i64 0] 128) := ⟨_, rfl⟩
  have hbW : Below w.heap.size w W := by rw [hW]; exact (((Below.refl _ _).alloc (Nat.le_refl _) _).alloc (by simp) _).alloc (by simp; omega) _
  have cX : Bx W w.heap.size 128 #[.int .i64 (n : Int), .int .i64 (c : Int), .int .i64 p] := by rw [hW]; exact ((Bx.new rfl).alloc _).alloc _
  have gX : Bx W (w.heap.size + 1) 150 #[.int .i64 kd, .int .i64 (A : Int), .int .i64 (B : Int)] := by rw [hW]; exact (Bx.new (by simp)).alloc _
  have zX : Bx W (w.heap.size + 1 + 1) 128 #[.int .i64 0, .int .i64 0, .int .i64 0] := by rw [hW]; exact Bx.new (by simp)
  have hzW : w.heap.size + 1 + 1 < W.heap.size := by rw [hW]; simp
  rw [← hW]
  clear hW
  have c0 := cX.c 0 rfl
  have c1 := cX.c 1 rfl
  have c2 := cX.c 2 rfl
  have cl := cX.lt
  have g0 := gX.c 0 rfl
  have g1 := gX.c 1 rfl
  have g2 := gX.c 2 rfl
  have gl := gX.lt
  have yc0 : W.drew.cell? ⟨w.heap.size, 0, none⟩ = some (.int .i64 (n : Int)) := c0
  have yc1 : W.drew.cell? ⟨w.heap.size, 1, none⟩ = some (.int .i64 (c : Int)) := c1
  have yc2 : W.drew.cell? ⟨w.heap.size, 2, none⟩ = some (.int .i64 p) := c2
  have yg0 : W.drew.cell? ⟨w.heap.size + 1, 0, none⟩ = some (.int .i64 kd) := g0
  have yg1 : W.drew.cell? ⟨w.heap.size + 1, 1, none⟩ = some (.int .i64 (A : Int)) := g1
  have yg2 : W.drew.cell? ⟨w.heap.size + 1, 2, none⟩ = some (.int .i64 (B : Int)) := g2
  refine wp_region_x (fun w' => w'.cell? ⟨w.heap.size, 0, none⟩ = some (.int .i64 (n : Int)) ∧ w'.cell? ⟨w.heap.size, 1, none⟩ = some (.int .i64 (c : Int)) ∧ w'.cell? ⟨w.heap.size, 2, none⟩ = some (.int .i64 p) ∧ w'.cell? ⟨w.heap.size + 1, 0, none⟩ = some (.int .i64 kd) ∧ w'.cell? ⟨w.heap.size + 1, 1, none⟩ = some (.int .i64 (A : Int)) ∧ w'.cell? ⟨w.heap.size + 1, 2, none⟩ = some (.int .i64 (B : Int))) 6 (by kernel_rfl) ⟨yc0, yc1, yc2, yg0, yg1, yg2⟩ (fun hS0 => ?_)
  refine wpAnyX_take (i := 0) (oi := _) (v := ?_) rfl (by kernel_rfl) (by kernel_rfl) (by kernel_rfl) (by kernel_rfl) (fun _ _ _ h => h) (Or.inl ⟨by rfl, ?_⟩) hS0 ?_
  rotate_left 1
  · (intro w hSw; (try dsimp only at hSw); go_simp; (try with_reducible rfl))
  try simp only [Act.put, List.setIfInBounds_toArray, List.set_cons_zero, List.set_cons_succ]
  refine wpAnyX_take (i := 1) (oi := _) (v := ?_) rfl (by kernel_rfl) (by kernel_rfl) (by kernel_rfl) (by kernel_rfl) (fun _ _ _ h => h) (Or.inl ⟨by rfl, ?_⟩) hS0 ?_
  rotate_left 1
  · (intro w hSw; (try dsimp only at hSw); go_simp; (try with_reducible rfl))
  try simp only [Act.put, List.setIfInBounds_toArray, List.set_cons_zero, List.set_cons_succ]
  refine wpAnyX_take (i := 2) (oi := _) (v := ?_) rfl (by kernel_rfl) (by kernel_rfl) (by kernel_rfl) (by kernel_rfl) (fun _ _ _ h => h) (Or.inl ⟨by rfl, ?_⟩) hS0 ?_
  rotate_left 1
  · (intro w hSw; (try dsimp only at hSw); go_simp; (try with_reducible rfl))
  try simp only [Act.put, List.setIfInBounds_toArray, List.set_cons_zero, List.set_cons_succ]
  refine wpAnyX_take (i := 3) (oi := _) (v := ?_) rfl (by kernel_rfl) (by kernel_rfl) (by kernel_rfl) (by kernel_rfl) (fun _ _ _ h => h) (Or.inl ⟨by rfl, ?_⟩) hS0 ?_
  rotate_left 1
  · (intro w hSw; (try dsimp only at hSw); go_simp; (try with_reducible rfl))
  try simp only [Act.put, List.setIfInBounds_toArray, List.set_cons_zero, List.set_cons_succ]
  refine wpAnyX_one (i := 4) (o := _) rfl (by kernel_rfl) (fun K hK => ?_)
  go_simp
  refine (kbit h5 hA hc9).mono ?_
  rintro ee v0 ⟨rfl, hbv00⟩
  have hbv0 := undrewK hbv00
  have hzv0 := hbv0.size
  refine hK.out _ _ (fun _ => ?_) (fun hS1 => ?_)
  · exact ⟨kc hbv00 (hS0.1), kc hbv00 (hS0.2.1), kc hbv00 (hS0.2.2.1), kc hbv00 (hS0.2.2.2.1), kc hbv00 (hS0.2.2.2.2.1), kc hbv00 (hS0.2.2.2.2.2)⟩
  clear hK K
  have hS1 := hS1 (by decide)
  try simp only [Act.put, List.setIfInBounds_toArray, List.set_cons_zero, List.set_cons_succ]
  refine wpAnyX_one (i := 5) (o := _) rfl (by kernel_rfl) (fun K hK => ?_)
  go_simp
  refine (kturn (by omega) (by omega) (by omega) (by omega)).mono ?_
  rintro ee v1 ⟨rfl, hbv1⟩
  have hzv1 := hbv1.size
  refine hK.out _ _ (fun _ => ?_) (fun hS2 => ?_)
  · exact ⟨kc hbv1 (hS1.1), kc hbv1 (hS1.2.1), kc hbv1 (hS1.2.2.1), kc hbv1 (hS1.2.2.2.1), kc hbv1 (hS1.2.2.2.2.1), kc hbv1 (hS1.2.2.2.2.2)⟩
  clear hK K
  have hS2 := hS2 (by decide)
  try simp only [Act.put, List.setIfInBounds_toArray, List.set_cons_zero, List.set_cons_succ]
  refine wpAnyX_one (i := 6) (o := _) rfl (by kernel_rfl) (fun K hK => ?_)
  have dX := ((cX.mono hbv0).mono hbv1)
  have d0 := dX.c 0 rfl
  have d1 := dX.c 1 rfl
  have d2 := dX.c 2 rfl
  have df := dX.f
  have dl := dX.lt
  have hX := ((gX.mono hbv0).mono hbv1)
  have h0 := hX.c 0 rfl
  have h1 := hX.c 1 rfl
  have h2 := hX.c 2 rfl
  have hf := hX.f
  have hl := hX.lt
  have eX := ((zX.mono hbv0).mono hbv1)
  have e0 := eX.c 0 rfl
  have e1 := eX.c 1 rfl
  have e2 := eX.c 2 rfl
  have ef := eX.f
  have el := eX.lt
  have ne1 : w.heap.size ≠ w.heap.size + 1 + 1 := by omega
  have ne2 : w.heap.size + 1 ≠ w.heap.size + 1 + 1 := by omega
  have ne3 : w.heap.size + 1 + 1 ≠ w.heap.size := by omega
  have ne4 : w.heap.size + 1 + 1 ≠ w.heap.size + 1 := by omega
  go_simp
  refine hK.out _ _ (fun h => absurd rfl h) (fun _ => ?_)
  clear hK K
  try simp only [Act.put, List.setIfInBounds_toArray, List.set_cons_zero, List.set_cons_succ]
  refine wpAnyX_done (by kernel_rfl) ?_ _
  go_wp2_with (fail)
  refine bodyPost_ret (v := .agg #[.int .i64 (n : Int), .int .i64 (c : Int), .int .i64 (p + ((bitI n c A : Nat) : Int))]) (by first | (simp [results, Try.results208, go_sem, *]; done) | (simp (disch := (first | omega | (simp; done) | (simp; omega))) [results, Try.results208, go_sem, *]; done) | (simp only [results, Try.results208]; go_simp; done)) rfl ⟨rfl, ?_⟩
  have chbv0 := chain hbW hbv0 hbW.size
  have chbv1 := chain chbv0 hbv1 chbv0.size
  (repeat' (first | (with_reducible exact Below.refl _ _) | (with_reducible assumption) | (with_reducible refine Below.alloc ?_ ?_ _) | (with_reducible refine Below.drew ?_) | (with_reducible refine below_drewN ?_ _) | (with_reducible refine Below.setCell ?_ ?_ _) | (with_reducible refine chain ?_ (by assumption) ?_) | omega | (simp; done) | (simp; omega)))

set_option maxRecDepth 100000 in
set_option maxHeartbeats 2000000 in
theorem kapplyTdg {n c A B : Nat} {p kd : Int} {w : World} (h5 : n ≤ 5) (hA : A < n) (hc : c < 2 ^ n) (p1 : -100 ≤ p) (p2 : p ≤ 100) :
    Calls Try.prog 209 #[.agg #[.int .i64 (n : Int), .int .i64 (c : Int), .int .i64 p], .agg #[.int .i64 kd, .int .i64 (A : Int), .int .i64 (B : Int)]] w fun ee w' => ee = .returned (.agg #[.int .i64 (n : Int), .int .i64 (c : Int), .int .i64 (p + -((bitI n c A : Nat) : Int))]) ∧ Below w.heap.size w w' := by
  have hc9 : c < 32 := Nat.lt_of_lt_of_le hc (pow_le h5)
  have b1 : bitI n c A ≤ 1 := by rcases bitI_01 (n := n) (c := c) (q := A) with h | h <;> omega
  have b2 : ((bitI n c A : Nat) : Int) ≤ 1 := by omega
  have b3 : 0 ≤ ((bitI n c A : Nat) : Int) := by omega
  have wq : IntKind.i64.wrap (-((bitI n c A : Nat) : Int)) = -((bitI n c A : Nat) : Int) := IntWalk.i64_in _ (by omega)
  go_enter Try.func209, Try.ntmps209
  go_upto_region 1 with (fail)
  obtain ⟨W, hW⟩ : ∃ W : World, W = ((w.alloc (.cells #[.int .i64 (n : Int), .int .i64 (c : Int), .int .i64 p] 128)).alloc (.cells #[.int .i64 kd, .int .i64 (A : Int), .int .i64 (B : Int)] 150)).alloc (.cells #[.int .i64 0, .int .i64 0, .int .i64 0] 128) := ⟨_, rfl⟩
  have hbW : Below w.heap.size w W := by rw [hW]; exact (((Below.refl _ _).alloc (Nat.le_refl _) _).alloc (by simp) _).alloc (by simp; omega) _
  have cX : Bx W w.heap.size 128 #[.int .i64 (n : Int), .int .i64 (c : Int), .int .i64 p] := by rw [hW]; exact ((Bx.new rfl).alloc _).alloc _
  have gX : Bx W (w.heap.size + 1) 150 #[.int .i64 kd, .int .i64 (A : Int), .int .i64 (B : Int)] := by rw [hW]; exact (Bx.new (by simp)).alloc _
  have zX : Bx W (w.heap.size + 1 + 1) 128 #[.int .i64 0, .int .i64 0, .int .i64 0] := by rw [hW]; exact Bx.new (by simp)
  have hzW : w.heap.size + 1 + 1 < W.heap.size := by rw [hW]; simp
  rw [← hW]
  clear hW
  have c0 := cX.c 0 rfl
  have c1 := cX.c 1 rfl
  have c2 := cX.c 2 rfl
  have cl := cX.lt
  have g0 := gX.c 0 rfl
  have g1 := gX.c 1 rfl
  have g2 := gX.c 2 rfl
  have gl := gX.lt
  have yc0 : W.drew.cell? ⟨w.heap.size, 0, none⟩ = some (.int .i64 (n : Int)) := c0
  have yc1 : W.drew.cell? ⟨w.heap.size, 1, none⟩ = some (.int .i64 (c : Int)) := c1
  have yc2 : W.drew.cell? ⟨w.heap.size, 2, none⟩ = some (.int .i64 p) := c2
  have yg0 : W.drew.cell? ⟨w.heap.size + 1, 0, none⟩ = some (.int .i64 kd) := g0
  have yg1 : W.drew.cell? ⟨w.heap.size + 1, 1, none⟩ = some (.int .i64 (A : Int)) := g1
  have yg2 : W.drew.cell? ⟨w.heap.size + 1, 2, none⟩ = some (.int .i64 (B : Int)) := g2
  refine wp_region_x (fun w' => w'.cell? ⟨w.heap.size, 0, none⟩ = some (.int .i64 (n : Int)) ∧ w'.cell? ⟨w.heap.size, 1, none⟩ = some (.int .i64 (c : Int)) ∧ w'.cell? ⟨w.heap.size, 2, none⟩ = some (.int .i64 p) ∧ w'.cell? ⟨w.heap.size + 1, 0, none⟩ = some (.int .i64 kd) ∧ w'.cell? ⟨w.heap.size + 1, 1, none⟩ = some (.int .i64 (A : Int)) ∧ w'.cell? ⟨w.heap.size + 1, 2, none⟩ = some (.int .i64 (B : Int))) 7 (by kernel_rfl) ⟨yc0, yc1, yc2, yg0, yg1, yg2⟩ (fun hS0 => ?_)
  refine wpAnyX_take (i := 0) (oi := _) (v := ?_) rfl (by kernel_rfl) (by kernel_rfl) (by kernel_rfl) (by kernel_rfl) (fun _ _ _ h => h) (Or.inl ⟨by rfl, ?_⟩) hS0 ?_
  rotate_left 1
  · (intro w hSw; (try dsimp only at hSw); go_simp; (try with_reducible rfl))
  try simp only [Act.put, List.setIfInBounds_toArray, List.set_cons_zero, List.set_cons_succ]
  refine wpAnyX_take (i := 1) (oi := _) (v := ?_) rfl (by kernel_rfl) (by kernel_rfl) (by kernel_rfl) (by kernel_rfl) (fun _ _ _ h => h) (Or.inl ⟨by rfl, ?_⟩) hS0 ?_
  rotate_left 1
  · (intro w hSw; (try dsimp only at hSw); go_simp; (try with_reducible rfl))
  try simp only [Act.put, List.setIfInBounds_toArray, List.set_cons_zero, List.set_cons_succ]
  refine wpAnyX_take (i := 2) (oi := _) (v := ?_) rfl (by kernel_rfl) (by kernel_rfl) (by kernel_rfl) (by kernel_rfl) (fun _ _ _ h => h) (Or.inl ⟨by rfl, ?_⟩) hS0 ?_
  rotate_left 1
  · (intro w hSw; (try dsimp only at hSw); go_simp; (try with_reducible rfl))
  try simp only [Act.put, List.setIfInBounds_toArray, List.set_cons_zero, List.set_cons_succ]
  refine wpAnyX_take (i := 3) (oi := _) (v := ?_) rfl (by kernel_rfl) (by kernel_rfl) (by kernel_rfl) (by kernel_rfl) (fun _ _ _ h => h) (Or.inl ⟨by rfl, ?_⟩) hS0 ?_
  rotate_left 1
  · (intro w hSw; (try dsimp only at hSw); go_simp; (try with_reducible rfl))
  try simp only [Act.put, List.setIfInBounds_toArray, List.set_cons_zero, List.set_cons_succ]
  refine wpAnyX_one (i := 4) (o := _) rfl (by kernel_rfl) (fun K hK => ?_)
  go_simp
  refine (kbit h5 hA hc9).mono ?_
  rintro ee v0 ⟨rfl, hbv00⟩
  have hbv0 := undrewK hbv00
  have hzv0 := hbv0.size
  refine hK.out _ _ (fun _ => ?_) (fun hS1 => ?_)
  · exact ⟨kc hbv00 (hS0.1), kc hbv00 (hS0.2.1), kc hbv00 (hS0.2.2.1), kc hbv00 (hS0.2.2.2.1), kc hbv00 (hS0.2.2.2.2.1), kc hbv00 (hS0.2.2.2.2.2)⟩
  clear hK K
  have hS1 := hS1 (by decide)
  try simp only [Act.put, List.setIfInBounds_toArray, List.set_cons_zero, List.set_cons_succ]
  refine wpAnyX_take (i := 5) (oi := _) (v := ?_) rfl (by kernel_rfl) (by kernel_rfl) (by kernel_rfl) (by kernel_rfl) (fun _ _ _ h => h) (Or.inl ⟨by rfl, ?_⟩) hS1 ?_
  rotate_left 1
  · (intro w hSw; (try dsimp only at hSw); go_simp; (try with_reducible rfl))
  try simp only [Act.put, List.setIfInBounds_toArray, List.set_cons_zero, List.set_cons_succ]
  refine wpAnyX_one (i := 6) (o := _) rfl (by kernel_rfl) (fun K hK => ?_)
  go_simp
  refine (kturn (by omega) (by omega) (by omega) (by omega)).mono ?_
  rintro ee v1 ⟨rfl, hbv1⟩
  have hzv1 := hbv1.size
  refine hK.out _ _ (fun _ => ?_) (fun hS2 => ?_)
  · exact ⟨kc hbv1 (hS1.1), kc hbv1 (hS1.2.1), kc hbv1 (hS1.2.2.1), kc hbv1 (hS1.2.2.2.1), kc hbv1 (hS1.2.2.2.2.1), kc hbv1 (hS1.2.2.2.2.2)⟩
  clear hK K
  have hS2 := hS2 (by decide)
  try simp only [Act.put, List.setIfInBounds_toArray, List.set_cons_zero, List.set_cons_succ]
  refine wpAnyX_one (i := 7) (o := _) rfl (by kernel_rfl) (fun K hK => ?_)
  have dX := ((cX.mono hbv0).mono hbv1)
  have d0 := dX.c 0 rfl
  have d1 := dX.c 1 rfl
  have d2 := dX.c 2 rfl
  have df := dX.f
  have dl := dX.lt
  have hX := ((gX.mono hbv0).mono hbv1)
  have h0 := hX.c 0 rfl
  have h1 := hX.c 1 rfl
  have h2 := hX.c 2 rfl
  have hf := hX.f
  have hl := hX.lt
  have eX := ((zX.mono hbv0).mono hbv1)
  have e0 := eX.c 0 rfl
  have e1 := eX.c 1 rfl
  have e2 := eX.c 2 rfl
  have ef := eX.f
  have el := eX.lt
  have ne1 : w.heap.size ≠ w.heap.size + 1 + 1 := by omega
  have ne2 : w.heap.size + 1 ≠ w.heap.size + 1 + 1 := by omega
  have ne3 : w.heap.size + 1 + 1 ≠ w.heap.size := by omega
  have ne4 : w.heap.size + 1 + 1 ≠ w.heap.size + 1 := by omega
  go_simp
  refine hK.out _ _ (fun h => absurd rfl h) (fun _ => ?_)
  clear hK K
  try simp only [Act.put, List.setIfInBounds_toArray, List.set_cons_zero, List.set_cons_succ]
  refine wpAnyX_done (by kernel_rfl) ?_ _
  go_wp2_with (fail)
  refine bodyPost_ret (v := .agg #[.int .i64 (n : Int), .int .i64 (c : Int), .int .i64 (p + -((bitI n c A : Nat) : Int))]) (by first | (simp [results, Try.results209, go_sem, *]; done) | (simp (disch := (first | omega | (simp; done) | (simp; omega))) [results, Try.results209, go_sem, *]; done) | (simp only [results, Try.results209]; go_simp; done)) rfl ⟨rfl, ?_⟩
  have chbv0 := chain hbW hbv0 hbW.size
  have chbv1 := chain chbv0 hbv1 chbv0.size
  (repeat' (first | (with_reducible exact Below.refl _ _) | (with_reducible assumption) | (with_reducible refine Below.alloc ?_ ?_ _) | (with_reducible refine Below.drew ?_) | (with_reducible refine below_drewN ?_ _) | (with_reducible refine Below.setCell ?_ ?_ _) | (with_reducible refine chain ?_ (by assumption) ?_) | omega | (simp; done) | (simp; omega)))

set_option maxRecDepth 100000 in
set_option maxHeartbeats 2000000 in
theorem kapplyY {n c A B : Nat} {p kd : Int} {w : World} (h5 : n ≤ 5) (hA : A < n) (hc : c < 2 ^ n) (p1 : -100 ≤ p) (p2 : p ≤ 100) :
    Calls Try.prog 151 #[.agg #[.int .i64 (n : Int), .int .i64 (c : Int), .int .i64 p], .agg #[.int .i64 kd, .int .i64 (A : Int), .int .i64 (B : Int)]] w fun ee w' => ee = .returned (.agg #[.int .i64 (n : Int), .int .i64 ((c ^^^ msk n A : Nat) : Int), .int .i64 (p + 4 * ((bitI n c A : Nat) : Int) + 2)]) ∧ Below w.heap.size w w' := by
  have hc9 : c < 32 := Nat.lt_of_lt_of_le hc (pow_le h5)
  have b1 : bitI n c A ≤ 1 := by rcases bitI_01 (n := n) (c := c) (q := A) with h | h <;> omega
  have b2 : ((bitI n c A : Nat) : Int) ≤ 1 := by omega
  have b3 : 0 ≤ ((bitI n c A : Nat) : Int) := by omega
  go_enter Try.func151, Try.ntmps151
  go_upto_region 1 with (fail)
  obtain ⟨W, hW⟩ : ∃ W : World, W = ((w.alloc (.cells #[.int .i64 (n : Int), .int .i64 (c : Int), .int .i64 p] 128)).alloc (.cells #[.int .i64 kd, .int .i64 (A : Int), .int .i64 (B : Int)] 150)).alloc (.cells #[.int .i64 0, .int .i64 0, .int .i64 0] 128) := ⟨_, rfl⟩
  have hbW : Below w.heap.size w W := by rw [hW]; exact (((Below.refl _ _).alloc (Nat.le_refl _) _).alloc (by simp) _).alloc (by simp; omega) _
  have cX : Bx W w.heap.size 128 #[.int .i64 (n : Int), .int .i64 (c : Int), .int .i64 p] := by rw [hW]; exact ((Bx.new rfl).alloc _).alloc _
  have gX : Bx W (w.heap.size + 1) 150 #[.int .i64 kd, .int .i64 (A : Int), .int .i64 (B : Int)] := by rw [hW]; exact (Bx.new (by simp)).alloc _
  have zX : Bx W (w.heap.size + 1 + 1) 128 #[.int .i64 0, .int .i64 0, .int .i64 0] := by rw [hW]; exact Bx.new (by simp)
  have hzW : w.heap.size + 1 + 1 < W.heap.size := by rw [hW]; simp
  rw [← hW]
  clear hW
  have c0 := cX.c 0 rfl
  have c1 := cX.c 1 rfl
  have c2 := cX.c 2 rfl
  have cl := cX.lt
  have g0 := gX.c 0 rfl
  have g1 := gX.c 1 rfl
  have g2 := gX.c 2 rfl
  have gl := gX.lt
  have yc0 : W.drew.cell? ⟨w.heap.size, 0, none⟩ = some (.int .i64 (n : Int)) := c0
  have yc1 : W.drew.cell? ⟨w.heap.size, 1, none⟩ = some (.int .i64 (c : Int)) := c1
  have yc2 : W.drew.cell? ⟨w.heap.size, 2, none⟩ = some (.int .i64 p) := c2
  have yg0 : W.drew.cell? ⟨w.heap.size + 1, 0, none⟩ = some (.int .i64 kd) := g0
  have yg1 : W.drew.cell? ⟨w.heap.size + 1, 1, none⟩ = some (.int .i64 (A : Int)) := g1
  have yg2 : W.drew.cell? ⟨w.heap.size + 1, 2, none⟩ = some (.int .i64 (B : Int)) := g2
  refine wp_region_x (fun w' => w'.cell? ⟨w.heap.size, 0, none⟩ = some (.int .i64 (n : Int)) ∧ w'.cell? ⟨w.heap.size, 1, none⟩ = some (.int .i64 (c : Int)) ∧ w'.cell? ⟨w.heap.size, 2, none⟩ = some (.int .i64 p) ∧ w'.cell? ⟨w.heap.size + 1, 0, none⟩ = some (.int .i64 kd) ∧ w'.cell? ⟨w.heap.size + 1, 1, none⟩ = some (.int .i64 (A : Int)) ∧ w'.cell? ⟨w.heap.size + 1, 2, none⟩ = some (.int .i64 (B : Int))) 6 (by kernel_rfl) ⟨yc0, yc1, yc2, yg0, yg1, yg2⟩ (fun hS0 => ?_)
  refine wpAnyX_take (i := 0) (oi := _) (v := ?_) rfl (by kernel_rfl) (by kernel_rfl) (by kernel_rfl) (by kernel_rfl) (fun _ _ _ h => h) (Or.inl ⟨by rfl, ?_⟩) hS0 ?_
  rotate_left 1
  · (intro w hSw; (try dsimp only at hSw); go_simp; (try with_reducible rfl))
  try simp only [Act.put, List.setIfInBounds_toArray, List.set_cons_zero, List.set_cons_succ]
  refine wpAnyX_take (i := 1) (oi := _) (v := ?_) rfl (by kernel_rfl) (by kernel_rfl) (by kernel_rfl) (by kernel_rfl) (fun _ _ _ h => h) (Or.inl ⟨by rfl, ?_⟩) hS0 ?_
  rotate_left 1
  · (intro w hSw; (try dsimp only at hSw); go_simp; (try with_reducible rfl))
  try simp only [Act.put, List.setIfInBounds_toArray, List.set_cons_zero, List.set_cons_succ]
  refine wpAnyX_take (i := 3) (oi := _) (v := ?_) rfl (by kernel_rfl) (by kernel_rfl) (by kernel_rfl) (by kernel_rfl) (fun _ _ _ h => h) (Or.inl ⟨by rfl, ?_⟩) hS0 ?_
  rotate_left 1
  · (intro w hSw; (try dsimp only at hSw); go_simp; (try with_reducible rfl))
  try simp only [Act.put, List.setIfInBounds_toArray, List.set_cons_zero, List.set_cons_succ]
  refine wpAnyX_one (i := 2) (o := _) rfl (by kernel_rfl) (fun K hK => ?_)
  go_simp
  refine (kapplyZ h5 hA hc p1 p2).mono ?_
  rintro ee v0 ⟨rfl, hbv00⟩
  have hbv0 := undrewK hbv00
  have hzv0 := hbv0.size
  refine hK.out _ _ (fun _ => ?_) (fun hS1 => ?_)
  · exact ⟨kc hbv00 (hS0.1), kc hbv00 (hS0.2.1), kc hbv00 (hS0.2.2.1), kc hbv00 (hS0.2.2.2.1), kc hbv00 (hS0.2.2.2.2.1), kc hbv00 (hS0.2.2.2.2.2)⟩
  clear hK K
  have hS1 := hS1 (by decide)
  try simp only [Act.put, List.setIfInBounds_toArray, List.set_cons_zero, List.set_cons_succ]
  refine wpAnyX_one (i := 4) (o := _) rfl (by kernel_rfl) (fun K hK => ?_)
  go_simp
  refine (kapplyX2 h5 hA hc (by omega) (by omega)).mono ?_
  rintro ee v1 ⟨rfl, hbv1⟩
  have hzv1 := hbv1.size
  refine hK.out _ _ (fun _ => ?_) (fun hS2 => ?_)
  · exact ⟨kc hbv1 (hS1.1), kc hbv1 (hS1.2.1), kc hbv1 (hS1.2.2.1), kc hbv1 (hS1.2.2.2.1), kc hbv1 (hS1.2.2.2.2.1), kc hbv1 (hS1.2.2.2.2.2)⟩
  clear hK K
  have hS2 := hS2 (by decide)
  try simp only [Act.put, List.setIfInBounds_toArray, List.set_cons_zero, List.set_cons_succ]
  refine wpAnyX_one (i := 5) (o := _) rfl (by kernel_rfl) (fun K hK => ?_)
  go_simp
  refine (kturn (by omega) (by omega) (by omega) (by omega)).mono ?_
  rintro ee v2 ⟨rfl, hbv2⟩
  have hzv2 := hbv2.size
  refine hK.out _ _ (fun _ => ?_) (fun hS3 => ?_)
  · exact ⟨kc hbv2 (hS2.1), kc hbv2 (hS2.2.1), kc hbv2 (hS2.2.2.1), kc hbv2 (hS2.2.2.2.1), kc hbv2 (hS2.2.2.2.2.1), kc hbv2 (hS2.2.2.2.2.2)⟩
  clear hK K
  have hS3 := hS3 (by decide)
  try simp only [Act.put, List.setIfInBounds_toArray, List.set_cons_zero, List.set_cons_succ]
  refine wpAnyX_one (i := 6) (o := _) rfl (by kernel_rfl) (fun K hK => ?_)
  have dX := (((cX.mono hbv0).mono hbv1).mono hbv2)
  have d0 := dX.c 0 rfl
  have d1 := dX.c 1 rfl
  have d2 := dX.c 2 rfl
  have df := dX.f
  have dl := dX.lt
  have hX := (((gX.mono hbv0).mono hbv1).mono hbv2)
  have h0 := hX.c 0 rfl
  have h1 := hX.c 1 rfl
  have h2 := hX.c 2 rfl
  have hf := hX.f
  have hl := hX.lt
  have eX := (((zX.mono hbv0).mono hbv1).mono hbv2)
  have e0 := eX.c 0 rfl
  have e1 := eX.c 1 rfl
  have e2 := eX.c 2 rfl
  have ef := eX.f
  have el := eX.lt
  have ne1 : w.heap.size ≠ w.heap.size + 1 + 1 := by omega
  have ne2 : w.heap.size + 1 ≠ w.heap.size + 1 + 1 := by omega
  have ne3 : w.heap.size + 1 + 1 ≠ w.heap.size := by omega
  have ne4 : w.heap.size + 1 + 1 ≠ w.heap.size + 1 := by omega
  go_simp
  refine hK.out _ _ (fun h => absurd rfl h) (fun _ => ?_)
  clear hK K
  try simp only [Act.put, List.setIfInBounds_toArray, List.set_cons_zero, List.set_cons_succ]
  refine wpAnyX_done (by kernel_rfl) ?_ _
  go_wp2_with (fail)
  refine bodyPost_ret (v := .agg #[.int .i64 (n : Int), .int .i64 ((c ^^^ msk n A : Nat) : Int), .int .i64 (p + 4 * ((bitI n c A : Nat) : Int) + 2)]) (by first | (simp [results, Try.results151, go_sem, *]; done) | (simp (disch := (first | omega | (simp; done) | (simp; omega))) [results, Try.results151, go_sem, *]; done) | (simp only [results, Try.results151]; go_simp; done)) rfl ⟨rfl, ?_⟩
  have chbv0 := chain hbW hbv0 hbW.size
  have chbv1 := chain chbv0 hbv1 chbv0.size
  have chbv2 := chain chbv1 hbv2 chbv1.size
  (repeat' (first | (with_reducible exact Below.refl _ _) | (with_reducible assumption) | (with_reducible refine Below.alloc ?_ ?_ _) | (with_reducible refine Below.drew ?_) | (with_reducible refine below_drewN ?_ _) | (with_reducible refine Below.setCell ?_ ?_ _) | (with_reducible refine chain ?_ (by assumption) ?_) | omega | (simp; done) | (simp; omega)))

end Go.Proofs.Ytofclfgaekjonaa
