/- Of -/
import Derived.Test.YtnjckeadcbfogaaZp33
namespace Go.Proofs.Ytnjckeadcbfogaa
open Go.RowKit RM
set_option linter.unusedVariables false
set_option linter.unusedSimpArgs false
attribute [local irreducible] World.setCell

open GM
set_option maxRecDepth 100000 in
set_option maxHeartbeats 8000000 in
theorem op_s_t {n m c1 : Nat} {A : Option Addr} {gs : List C4.GateV} {w : World} (hA : C4.Rd C4.gateE w A gs) (hm : gs.length = m) (hok : C4.okC (n : Int) m gs = true) (hAb : ∀ a, A = some a → a.block < w.heap.size) :
    Calls Try.prog 31 #[C4.circuitV (n : Int) A m c1] w fun ee w' => (opL n gs = none → ee = .returned (mt 0 0 none 0 0 false)) ∧ (∀ zs, opL n gs = some zs → ∃ (Bo : Option Addr) (cq : Nat), ee = .returned (mt ((2 ^ n : Nat) : Int) ((2 ^ n : Nat) : Int) Bo (2 ^ n * 2 ^ n) cq true) ∧ Rd w' Bo zs ∧ (∀ a, Bo = some a → w.heap.size ≤ a.block)) ∧ Below w.heap.size w w' := by
  obtain ⟨n', hn', h1, h5, hm4, hG⟩ := okC_nat hok
  obtain rfl : n = n' := by omega
  obtain ⟨D, hD⟩ : ∃ D, D = 2 ^ n := ⟨_, rfl⟩
  obtain ⟨d2, d32, dw, dw2, dd⟩ := pow_dim h1 h5 hD
  obtain ⟨NN, hNN⟩ : ∃ NN, NN = D * D := ⟨_, rfl⟩
  have nn5 : NN ≤ 1024 := by rw [hNN]; exact Nat.mul_le_mul d32 d32
  have hr : opL n gs = apl n D D gs (tab NN (unitP D D)) := by unfold opL; rw [hNN, hD]
  rw [hr, ← hD, ← hNN]
  have hmx : m ≤ maxLen := by unfold maxLen; omega
  have n5 : (n : Int) ≤ 5 := by omega
  have uok : okM (D : Int) (D : Int) NN (tab NN (unitP D D)) = true := okM_iff.2 ⟨dd, dd, by rw [hNN]; simp, unit_ok D⟩
  have HA := hid hA
  have HM := hid hm
  have HO := hid hok
  have HX := hid hmx
  have HD := hid hD
  have EQ := hid hNN
  have DD := hid dd
  have HG := hid hG
  have UOK := hid uok
  have HAB := hid hAb
  clear hA hm hok hmx hD hNN dd hG uok hr hn' hAb
  go_enter Try.func31, Try.ntmps31
  go_wp2_with (fail)
  refine (C4.vcs HO.out ?_ HM.out HX.out).mono ?_
  · exact HA.out.mono (by (repeat' (first | (with_reducible exact Below.refl _ _) | (with_reducible assumption) | (with_reducible refine Below.alloc ?_ ?_ _) | (with_reducible refine Below.drew ?_) | (with_reducible refine below_drewN ?_ _) | (with_reducible refine Below.setCell ?_ ?_ _) | (with_reducible refine chain ?_ (by assumption) ?_) | omega | (simp; done) | (simp; omega))))
  rintro ee w1 ⟨rfl, hb1⟩
  have Xc1 : Bx w1 (w.heap.size) 45 #[.int .i64 (n : Int), .slice A m c1] := by (repeat' (first | (with_reducible assumption) | (refine Bx.new (by first | (with_reducible rfl) | (simp; done))) | (with_reducible refine Bx.alloc ?_ _) | (with_reducible refine Bx.drew ?_) | (with_reducible refine Bx.drewN ?_ _) | (with_reducible refine Bx.mono ?_ (by assumption)) | (with_reducible refine Bx.badly ?_ (by assumption) (by omega)) | (with_reducible refine Bx.far ?_ (by (try simp only [World.size_alloc, World.size_drew]); omega)) | (with_reducible refine Bx.set ?_ rfl) | (with_reducible refine Bx.grown ?_ (by assumption) (by assumption))))
  have Xz1 : Bx w1 (w.heap.size + 1) 28 #[.int .i64 0, .int .i64 0, .slice none 0 0] := by (repeat' (first | (with_reducible assumption) | (refine Bx.new (by first | (with_reducible rfl) | (simp; done))) | (with_reducible refine Bx.alloc ?_ _) | (with_reducible refine Bx.drew ?_) | (with_reducible refine Bx.drewN ?_ _) | (with_reducible refine Bx.mono ?_ (by assumption)) | (with_reducible refine Bx.badly ?_ (by assumption) (by omega)) | (with_reducible refine Bx.far ?_ (by (try simp only [World.size_alloc, World.size_drew]); omega)) | (with_reducible refine Bx.set ?_ rfl) | (with_reducible refine Bx.grown ?_ (by assumption) (by assumption))))
  have hz1 := hb1.size
  (try simp only [World.size_alloc] at hz1)
  have hw1 : Below w.heap.size w w1 := by (repeat' (first | (with_reducible exact Below.refl _ _) | (with_reducible assumption) | (with_reducible refine Below.alloc ?_ ?_ _) | (with_reducible refine Below.drew ?_) | (with_reducible refine below_drewN ?_ _) | (with_reducible refine Below.setCell ?_ ?_ _) | (with_reducible refine chain ?_ (by assumption) ?_) | omega | (simp; done) | (simp; omega)))
  have c0 := Xc1.c 0 rfl
  have c1' := Xc1.c 1 rfl
  have lc := Xc1.lt
  clear hb1
  go_upto_region 4 with (fail)
  obtain ⟨W, hW⟩ : ∃ W : World, W = w1.alloc (.cells #[.bool false] 95) := ⟨_, rfl⟩
  have hbW : Below w1.heap.size w1 W := by rw [hW]; exact (Below.refl _ _).alloc (Nat.le_refl _) _
  have Xf : Bx W w1.heap.size 95 #[.bool false] := by rw [hW]; exact Bx.new rfl
  have hzW : w1.heap.size < W.heap.size := by rw [hW]; simp
  have hzW2 : W.heap.size ≤ w1.heap.size + 1 := by rw [hW]; simp
  rw [← hW]
  clear hW c0 c1' lc
  have Xc := Xc1.mono hbW
  have Xz := Xz1.mono hbW
  have hwW : Below w.heap.size w W := chain hw1 hbW hw1.size
  clear Xc1 Xz1
  have c0 := Xc.c 0 rfl
  have c1' := Xc.c 1 rfl
  have hAl : ∀ a, A = some a → a.block < w.heap.size := HAB.out
  have hsh : IntKind.i64.wrap (2 ^ min (IntKind.u64.wrap (n : Int)).toNat 64) = (D : Int) := by
    have hu : IntKind.u64.wrap (n : Int) = (n : Int) := by
      have : n = 1 ∨ n = 2 ∨ n = 3 ∨ n = 4 ∨ n = 5 := by omega
      rcases this with rfl | rfl | rfl | rfl | rfl <;> rfl
    rw [hu, Int.toNat_natCast, Nat.min_eq_left (by omega)]
    exact dw2
  cases hq : apl n D D gs (tab NN (unitP D D)) with
  | none =>
    have yc0 : W.drew.cell? ⟨w.heap.size, 0, none⟩ = some (.int .i64 (n : Int)) := c0
    have yc1' : W.drew.cell? ⟨w.heap.size, 1, none⟩ = some (.slice A m c1) := c1'
    refine wp_region_x (fun w' => w'.cell? ⟨w.heap.size, 0, none⟩ = some (.int .i64 (n : Int)) ∧ w'.cell? ⟨w.heap.size, 1, none⟩ = some (.slice A m c1)) 1000 (by kernel_rfl) ⟨yc0, yc1'⟩ (fun hS0 => ?_)
    refine wpAnyX_take (i := 0) (oi := _) (v := ?_) rfl (by kernel_rfl) (by kernel_rfl) (by kernel_rfl) (by kernel_rfl) (fun _ _ _ h => h) (Or.inl ⟨by rfl, ?_⟩) hS0 ?_
    rotate_left 1
    · (intro w hSw; (try dsimp only at hSw); go_simp; (try with_reducible rfl))
    try simp only [Act.put, List.setIfInBounds_toArray, List.set_cons_zero, List.set_cons_succ]
    refine wpAnyX_take (i := 1) (oi := _) (v := ?_) rfl (by kernel_rfl) (by kernel_rfl) (by kernel_rfl) (by kernel_rfl) (fun _ _ _ h => h) (Or.inl ⟨by rfl, ?_⟩) hS0 ?_
    rotate_left 1
    · (intro w hSw; (try dsimp only at hSw); go_simp; (try with_reducible rfl))
    try simp only [Act.put, List.setIfInBounds_toArray, List.set_cons_zero, List.set_cons_succ]
    refine wpAnyX_take (i := 2) (oi := _) (v := ?_) rfl (by kernel_rfl) (by kernel_rfl) (by kernel_rfl) (by kernel_rfl) (fun _ _ _ h => h) (Or.inl ⟨by rfl, ?_⟩) hS0 ?_
    rotate_left 1
    · (intro w hSw; (try dsimp only at hSw); go_simp; (try with_reducible rfl))
    try simp only [Act.put, List.setIfInBounds_toArray, List.set_cons_zero, List.set_cons_succ]
    refine wpAnyX_take (i := 3) (oi := _) (v := ?_) rfl (by kernel_rfl) (by kernel_rfl) (by kernel_rfl) (by kernel_rfl) (fun _ _ _ h => h) (Or.inl ⟨by rfl, ?_⟩) hS0 ?_
    rotate_left 1
    · (intro w hSw; (try dsimp only at hSw); go_simp; (try with_reducible rfl))
    try simp only [Act.put, List.setIfInBounds_toArray, List.set_cons_zero, List.set_cons_succ]
    refine wpAnyX_take (i := 4) (oi := _) (v := ?_) rfl (by kernel_rfl) (by kernel_rfl) (by kernel_rfl) (by kernel_rfl) (fun _ _ _ h => h) (Or.inl ⟨by rfl, ?_⟩) hS0 ?_
    rotate_left 1
    · (intro w hSw; (try dsimp only at hSw); go_simp; (try with_reducible rfl))
    try simp only [Act.put, List.setIfInBounds_toArray, List.set_cons_zero, List.set_cons_succ]
    refine wpAnyX_take (i := 5) (oi := _) (v := ?_) rfl (by kernel_rfl) (by kernel_rfl) (by kernel_rfl) (by kernel_rfl) (fun _ _ _ h => h) (Or.inl ⟨by rfl, ?_⟩) hS0 ?_
    rotate_left 1
    · (intro w hSw; (try dsimp only at hSw); go_simp; (try with_reducible rfl))
    try simp only [Act.put, List.setIfInBounds_toArray, List.set_cons_zero, List.set_cons_succ]
    refine wpAnyX_take (i := 6) (oi := _) (v := ?_) rfl (by kernel_rfl) (by kernel_rfl) (by kernel_rfl) (by kernel_rfl) (fun _ _ _ h => h) (Or.inl ⟨by rfl, ?_⟩) hS0 ?_
    rotate_left 1
    · (intro w hSw; (try dsimp only at hSw); go_simp; (try with_reducible rfl))
    try simp only [Act.put, List.setIfInBounds_toArray, List.set_cons_zero, List.set_cons_succ]
    refine wpAnyX_one (i := 7) (o := _) rfl (by kernel_rfl) (fun K hK => ?_)
    go_simp
    (try simp only [hsh])
    refine (unit_s (N := D) (n := NN) EQ.out (by omega) d32 nn5).mono ?_
    rintro ee w2 ⟨rfl, hK2, hb20⟩
    have hb2 := undrewK hb20
    have hz2 := hb2.size
    (try simp only [World.size_drew] at hK2)
    refine hK.out _ _ (fun _ => ?_) (fun hS1 => ?_)
    · exact ⟨kc hb20 (hS0.1), kc hb20 (hS0.2)⟩
    clear hK K
    have hS1 := hS1 (by decide)
    try simp only [Act.put, List.setIfInBounds_toArray, List.set_cons_zero, List.set_cons_succ]
    refine wpAnyX_one (i := 8) (o := _) rfl (by kernel_rfl) (fun K hK => ?_)
    go_simp
    refine (lrun (n := n) (D := D) (C := D) (N := NN) (m := m) (c1 := c1) (A := A) (gs := gs) (gc := w1.heap.size) (xs := tab NN (unitP D D)) (HA.out.mono (chain hwW hb2 hwW.size)) (fun a ha => by have := (hAl a ha); omega) HM.out hm4 HG.out h1 h5 HD.out DD.out EQ.out hK2.rd (by (try simp only [World.size_drew]); omega) (by have := hK2.lt; (try simp only [World.size_drew] at this ⊢); omega) (tab_len _ _) UOK.out (Xf.mono hb2)).mono ?_
    rintro ee w3 ⟨z, zs, h, o, cq, rfl, hl, hzf, hzt, hR3, hh3, hb3⟩
    have hz3 := bad_size hb3
    have Xf3 := (Xf.mono hb2).bad hb3
    obtain rfl : z = true := by
      cases z
      · rw [hzf rfl] at hq; cases hq
      · rfl
    have f0 := Xf3.c 0 rfl
    have lf3 := Xf3.lt
    refine hK.out _ _ (fun _ => ?_) (fun hS2 => ?_)
    · exact ⟨kbad hb3 (by omega) (hS1.1), kbad hb3 (by omega) (hS1.2)⟩
    clear hK K
    have hS2 := hS2 (by decide)
    try simp only [Act.put, List.setIfInBounds_toArray, List.set_cons_zero, List.set_cons_succ]
    refine wpAnyX_one (i := 9) (o := _) rfl (by kernel_rfl) (fun K hK => ?_)
    go_simp
    refine (cmat_t f0).mono ?_
    rintro ee w4 ⟨rfl, hb4⟩
    have hz4 := hb4.size
    refine hK.out _ _ (fun _ => ?_) (fun hS3 => ?_)
    · exact ⟨kc hb4 (hS2.1), kc hb4 (hS2.2)⟩
    clear hK K
    have hS3 := hS3 (by decide)
    try simp only [Act.put, List.setIfInBounds_toArray, List.set_cons_zero, List.set_cons_succ]
    refine wpAnyX_take (i := 10) (oi := _) (v := ?_) rfl (by kernel_rfl) (by kernel_rfl) (by kernel_rfl) (by kernel_rfl) (fun _ _ _ h => h) (Or.inl ⟨by rfl, ?_⟩) hS3 ?_
    rotate_left 1
    · (intro w hSw; (try dsimp only at hSw); go_simp; (try with_reducible rfl))
    try simp only [Act.put, List.setIfInBounds_toArray, List.set_cons_zero, List.set_cons_succ]
    refine wpAnyX_take (i := 11) (oi := _) (v := ?_) rfl (by kernel_rfl) (by kernel_rfl) (by kernel_rfl) (by kernel_rfl) (fun _ _ _ h => h) (Or.inl ⟨by rfl, ?_⟩) hS3 ?_
    rotate_left 1
    · (intro w hSw; (try dsimp only at hSw); go_simp; (try with_reducible rfl))
    try simp only [Act.put, List.setIfInBounds_toArray, List.set_cons_zero, List.set_cons_succ]
    refine wpAnyX_one (i := 12) (o := _) rfl (by kernel_rfl) (fun K hK => ?_)
    have Xz4 := ((Xz.mono hb2).badly hb3 (by omega)).mono hb4
    have e0 := Xz4.c 0 rfl
    have e1 := Xz4.c 1 rfl
    have e2 := Xz4.c 2 rfl
    have ef := Xz4.f
    have el := Xz4.lt
    go_simp
    refine hK.out _ _ (fun _ => ?_) (fun hS4 => ?_)
    · first | exact ⟨kst3 (by omega) (hS3.1), kst3 (by omega) (hS3.2)⟩ | exact ⟨kc (Below.refl _ _) (hS3.1), kc (Below.refl _ _) (hS3.2)⟩
    clear hK K
    have hS4 := hS4 (by decide)
    try simp only [Act.put, List.setIfInBounds_toArray, List.set_cons_zero, List.set_cons_succ]
    refine wpAnyX_take (i := 13) (oi := _) (v := ?_) rfl (by kernel_rfl) (by kernel_rfl) (by kernel_rfl) (by kernel_rfl) (fun _ _ _ h => h) (Or.inl ⟨by rfl, ?_⟩) hS4 ?_
    rotate_left 1
    · (intro w hSw; (try dsimp only at hSw); go_simp; (try with_reducible rfl))
    change wpAnyX _ _ _ _ _ _ _ _ (Act.put _ (some 3) _) _
    try simp only [Act.put, List.setIfInBounds_toArray, List.set_cons_zero, List.set_cons_succ]
    refine wpAnyX_done (by kernel_rfl) ?_ _
    have hB2 : Below w.heap.size w w2 := chain hwW hb2 hwW.size
    have hB3 : Below w.heap.size w w3 := bad_below hB2 hb3 (by omega)
    have hB4 : Below w.heap.size w w4 := chain hB3 hb4 hB3.size
    have HQ := hid hq
    clear hzf hzt hR3 hb3 hb4 hq
    go_wp2_with fail
    refine bodyPost_ret (v := mt 0 0 none 0 0 false) (by first | (simp [results, Try.results31, go_sem, *]; done) | (simp (disch := (first | omega | (simp; done) | (simp; omega))) [results, Try.results31, go_sem, *]; done) | (simp only [results, Try.results31]; go_simp; done)) rfl ⟨fun _ => rfl, fun zs k => ?_, ?_⟩
    · rw [HQ.out] at k; cases k
    · (repeat' (first | (with_reducible exact Below.refl _ _) | (with_reducible assumption) | (with_reducible refine Below.alloc ?_ ?_ _) | (with_reducible refine Below.drew ?_) | (with_reducible refine below_drewN ?_ _) | (with_reducible refine Below.setCell ?_ ?_ _) | (with_reducible refine chain ?_ (by assumption) ?_) | omega | (simp; done) | (simp; omega)))
  | some ys =>
    have yc0 : W.drew.cell? ⟨w.heap.size, 0, none⟩ = some (.int .i64 (n : Int)) := c0
    have yc1' : W.drew.cell? ⟨w.heap.size, 1, none⟩ = some (.slice A m c1) := c1'
    refine wp_region_x (fun w' => w'.cell? ⟨w.heap.size, 0, none⟩ = some (.int .i64 (n : Int)) ∧ w'.cell? ⟨w.heap.size, 1, none⟩ = some (.slice A m c1)) 1000 (by kernel_rfl) ⟨yc0, yc1'⟩ (fun hS0 => ?_)
    refine wpAnyX_take (i := 0) (oi := _) (v := ?_) rfl (by kernel_rfl) (by kernel_rfl) (by kernel_rfl) (by kernel_rfl) (fun _ _ _ h => h) (Or.inl ⟨by rfl, ?_⟩) hS0 ?_
    rotate_left 1
    · (intro w hSw; (try dsimp only at hSw); go_simp; (try with_reducible rfl))
    try simp only [Act.put, List.setIfInBounds_toArray, List.set_cons_zero, List.set_cons_succ]
    refine wpAnyX_take (i := 1) (oi := _) (v := ?_) rfl (by kernel_rfl) (by kernel_rfl) (by kernel_rfl) (by kernel_rfl) (fun _ _ _ h => h) (Or.inl ⟨by rfl, ?_⟩) hS0 ?_
    rotate_left 1
    · (intro w hSw; (try dsimp only at hSw); go_simp; (try with_reducible rfl))
    try simp only [Act.put, List.setIfInBounds_toArray, List.set_cons_zero, List.set_cons_succ]
    refine wpAnyX_take (i := 2) (oi := _) (v := ?_) rfl (by kernel_rfl) (by kernel_rfl) (by kernel_rfl) (by kernel_rfl) (fun _ _ _ h => h) (Or.inl ⟨by rfl, ?_⟩) hS0 ?_
    rotate_left 1
    · (intro w hSw; (try dsimp only at hSw); go_simp; (try with_reducible rfl))
    try simp only [Act.put, List.setIfInBounds_toArray, List.set_cons_zero, List.set_cons_succ]
    refine wpAnyX_take (i := 3) (oi := _) (v := ?_) rfl (by kernel_rfl) (by kernel_rfl) (by kernel_rfl) (by kernel_rfl) (fun _ _ _ h => h) (Or.inl ⟨by rfl, ?_⟩) hS0 ?_
    rotate_left 1
    · (intro w hSw; (try dsimp only at hSw); go_simp; (try with_reducible rfl))
    try simp only [Act.put, List.setIfInBounds_toArray, List.set_cons_zero, List.set_cons_succ]
    refine wpAnyX_take (i := 4) (oi := _) (v := ?_) rfl (by kernel_rfl) (by kernel_rfl) (by kernel_rfl) (by kernel_rfl) (fun _ _ _ h => h) (Or.inl ⟨by rfl, ?_⟩) hS0 ?_
    rotate_left 1
    · (intro w hSw; (try dsimp only at hSw); go_simp; (try with_reducible rfl))
    try simp only [Act.put, List.setIfInBounds_toArray, List.set_cons_zero, List.set_cons_succ]
    refine wpAnyX_take (i := 5) (oi := _) (v := ?_) rfl (by kernel_rfl) (by kernel_rfl) (by kernel_rfl) (by kernel_rfl) (fun _ _ _ h => h) (Or.inl ⟨by rfl, ?_⟩) hS0 ?_
    rotate_left 1
    · (intro w hSw; (try dsimp only at hSw); go_simp; (try with_reducible rfl))
    try simp only [Act.put, List.setIfInBounds_toArray, List.set_cons_zero, List.set_cons_succ]
    refine wpAnyX_take (i := 6) (oi := _) (v := ?_) rfl (by kernel_rfl) (by kernel_rfl) (by kernel_rfl) (by kernel_rfl) (fun _ _ _ h => h) (Or.inl ⟨by rfl, ?_⟩) hS0 ?_
    rotate_left 1
    · (intro w hSw; (try dsimp only at hSw); go_simp; (try with_reducible rfl))
    try simp only [Act.put, List.setIfInBounds_toArray, List.set_cons_zero, List.set_cons_succ]
    refine wpAnyX_one (i := 7) (o := _) rfl (by kernel_rfl) (fun K hK => ?_)
    go_simp
    (try simp only [hsh])
    refine (unit_s (N := D) (n := NN) EQ.out (by omega) d32 nn5).mono ?_
    rintro ee w2 ⟨rfl, hK2, hb20⟩
    have hb2 := undrewK hb20
    have hz2 := hb2.size
    (try simp only [World.size_drew] at hK2)
    refine hK.out _ _ (fun _ => ?_) (fun hS1 => ?_)
    · exact ⟨kc hb20 (hS0.1), kc hb20 (hS0.2)⟩
    clear hK K
    have hS1 := hS1 (by decide)
    try simp only [Act.put, List.setIfInBounds_toArray, List.set_cons_zero, List.set_cons_succ]
    refine wpAnyX_one (i := 8) (o := _) rfl (by kernel_rfl) (fun K hK => ?_)
    go_simp
    refine (lrun (n := n) (D := D) (C := D) (N := NN) (m := m) (c1 := c1) (A := A) (gs := gs) (gc := w1.heap.size) (xs := tab NN (unitP D D)) (HA.out.mono (chain hwW hb2 hwW.size)) (fun a ha => by have := (hAl a ha); omega) HM.out hm4 HG.out h1 h5 HD.out DD.out EQ.out hK2.rd (by (try simp only [World.size_drew]); omega) (by have := hK2.lt; (try simp only [World.size_drew] at this ⊢); omega) (tab_len _ _) UOK.out (Xf.mono hb2)).mono ?_
    rintro ee w3 ⟨z, zs, h, o, cq, rfl, hl, hzf, hzt, hR3, hh3, hb3⟩
    have hz3 := bad_size hb3
    have Xf3 := (Xf.mono hb2).bad hb3
    obtain rfl : z = false := by
      cases z
      · rfl
      · rw [hzt rfl] at hq; cases hq
    have f0 := Xf3.c 0 rfl
    have lf3 := Xf3.lt
    refine hK.out _ _ (fun _ => ?_) (fun hS2 => ?_)
    · exact ⟨kbad hb3 (by omega) (hS1.1), kbad hb3 (by omega) (hS1.2)⟩
    clear hK K
    have hS2 := hS2 (by decide)
    try simp only [Act.put, List.setIfInBounds_toArray, List.set_cons_zero, List.set_cons_succ]
    refine wpAnyX_one (i := 9) (o := _) rfl (by kernel_rfl) (fun K hK => ?_)
    go_simp
    refine (cmat_f f0).mono ?_
    rintro ee w4 ⟨rfl, hb4⟩
    have hz4 := hb4.size
    refine hK.out _ _ (fun _ => ?_) (fun hS3 => ?_)
    · exact ⟨kc hb4 (hS2.1), kc hb4 (hS2.2)⟩
    clear hK K
    have hS3 := hS3 (by decide)
    try simp only [Act.put, List.setIfInBounds_toArray, List.set_cons_zero, List.set_cons_succ]
    refine wpAnyX_take (i := 10) (oi := _) (v := ?_) rfl (by kernel_rfl) (by kernel_rfl) (by kernel_rfl) (by kernel_rfl) (fun _ _ _ h => h) (Or.inl ⟨by rfl, ?_⟩) hS3 ?_
    rotate_left 1
    · (intro w hSw; (try dsimp only at hSw); go_simp; (try with_reducible rfl))
    try simp only [Act.put, List.setIfInBounds_toArray, List.set_cons_zero, List.set_cons_succ]
    refine wpAnyX_take (i := 11) (oi := _) (v := ?_) rfl (by kernel_rfl) (by kernel_rfl) (by kernel_rfl) (by kernel_rfl) (fun _ _ _ h => h) (Or.inl ⟨by rfl, ?_⟩) hS3 ?_
    rotate_left 1
    · (intro w hSw; (try dsimp only at hSw); go_simp; (try with_reducible rfl))
    try simp only [Act.put, List.setIfInBounds_toArray, List.set_cons_zero, List.set_cons_succ]
    refine wpAnyX_one (i := 12) (o := _) rfl (by kernel_rfl) (fun K hK => ?_)
    have Xz4 := ((Xz.mono hb2).badly hb3 (by omega)).mono hb4
    have e0 := Xz4.c 0 rfl
    have e1 := Xz4.c 1 rfl
    have e2 := Xz4.c 2 rfl
    have ef := Xz4.f
    have el := Xz4.lt
    go_simp
    refine hK.out _ _ (fun _ => ?_) (fun hS4 => ?_)
    · first | exact ⟨kst3 (by omega) (hS3.1), kst3 (by omega) (hS3.2)⟩ | exact ⟨kc (Below.refl _ _) (hS3.1), kc (Below.refl _ _) (hS3.2)⟩
    clear hK K
    have hS4 := hS4 (by decide)
    try simp only [Act.put, List.setIfInBounds_toArray, List.set_cons_zero, List.set_cons_succ]
    refine wpAnyX_take (i := 13) (oi := _) (v := ?_) rfl (by kernel_rfl) (by kernel_rfl) (by kernel_rfl) (by kernel_rfl) (fun _ _ _ h => h) (Or.inl ⟨by rfl, ?_⟩) hS4 ?_
    rotate_left 1
    · (intro w hSw; (try dsimp only at hSw); go_simp; (try with_reducible rfl))
    change wpAnyX _ _ _ _ _ _ _ _ (Act.put _ (some 3) _) _
    try simp only [Act.put, List.setIfInBounds_toArray, List.set_cons_zero, List.set_cons_succ]
    refine wpAnyX_done (by kernel_rfl) ?_ _
    have hB2 : Below w.heap.size w w2 := chain hwW hb2 hwW.size
    have hB3 : Below w.heap.size w w3 := bad_below hB2 hb3 (by omega)
    have hB4 : Below w.heap.size w w4 := chain hB3 hb4 hB3.size
    have HR4 := hid (hR3.mono hb4)
    obtain ⟨rfl⟩ : zs = ys := Option.some.inj ((hzf rfl).symm.trans hq)
    have HQ := hid hq
    clear hzf hzt hR3 hb3 hb4 hq
    go_wp2_with fail
    refine bodyPost_ret (v := mt (D : Int) (D : Int) (some ⟨h, o, none⟩) NN cq true) (by first | (simp [results, Try.results31, go_sem, *]; done) | (simp (disch := (first | omega | (simp; done) | (simp; omega))) [results, Try.results31, go_sem, *]; done) | (simp only [results, Try.results31]; go_simp; done)) rfl ⟨fun k => ?_, fun zs k => ?_, ?_⟩
    · rw [HQ.out] at k; cases k
    · rw [HQ.out] at k
      obtain rfl := Option.some.inj k
      refine ⟨some ⟨h, o, none⟩, cq, rfl, ?_, fun a ha => by obtain rfl := Option.some.inj ha; show w.heap.size ≤ h; (try simp only [World.size_drew] at hh3); omega⟩
      (repeat' (first | exact HR4.out | refine Rd.far ?_ (fun a ha => by obtain rfl := Option.some.inj ha; show h ≠ w.heap.size + 1; (try simp only [World.size_drew] at hh3); omega) _))
    · (repeat' (first | (with_reducible exact Below.refl _ _) | (with_reducible assumption) | (with_reducible refine Below.alloc ?_ ?_ _) | (with_reducible refine Below.drew ?_) | (with_reducible refine below_drewN ?_ _) | (with_reducible refine Below.setCell ?_ ?_ _) | (with_reducible refine chain ?_ (by assumption) ?_) | omega | (simp; done) | (simp; omega)))

end Go.Proofs.Ytnjckeadcbfogaa
