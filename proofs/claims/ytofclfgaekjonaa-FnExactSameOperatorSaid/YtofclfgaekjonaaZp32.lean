/- Of, LwOp, StEq, Eq -/
import Derived.Test.YtofclfgaekjonaaZp31
import Derived.Test.YtofclfgaekjonaaZp20
import Derived.Test.YtofclfgaekjonaaZp18
import Derived.Test.YtofclfgaekjonaaZp14
import Derived.Test.YtofclfgaekjonaaZp8
import Derived.ChangeKeysEq
import Derived.BigQuiet
import Derived.Deep.QuietTactic
import Derived.Deep.LoopGhost
namespace Go.Proofs.Ytofclfgaekjonaa
open Go.RowKit RM
set_option linter.unusedVariables false
set_option linter.unusedSimpArgs false
attribute [local irreducible] World.setCell

open GM
set_option maxRecDepth 100000 in
set_option maxHeartbeats 8000000 in
theorem op_s_t {n m c1 : Nat} {A : Option Addr} {gs : List C4.GateV} {w : World} (hA : C4.Rd C4.gateE w A gs) (hm : gs.length = m) (hok : C4.okC (n : Int) m gs = true) (hAb : ∀ a, A = some a → a.block < w.heap.size) :
    Calls Try.prog 64 #[C4.circuitV (n : Int) A m c1] w fun ee w' => (opL n gs = none → ee = .returned (mt 0 0 none 0 0 false)) ∧ (∀ zs, opL n gs = some zs → ∃ (Bo : Option Addr) (cq : Nat), ee = .returned (mt ((2 ^ n : Nat) : Int) ((2 ^ n : Nat) : Int) Bo (2 ^ n * 2 ^ n) cq true) ∧ Rd w' Bo zs ∧ (∀ a, Bo = some a → w.heap.size ≤ a.block)) ∧ Below w.heap.size w w' := by
  obtain ⟨n', hn', h1, h5, hm4, hG⟩ := okC_nat hok
  obtain rfl : n = n' := by omega
  obtain ⟨D, hD⟩ : ∃ D, D = 2 ^ n := ⟨_, rfl⟩
  obtain ⟨d2, d32, dw, dw2, dd⟩ := pow_dim h1 h5 hD
  obtain ⟨NN, hNN⟩ : ∃ NN, NN = D * D := ⟨_, rfl⟩
  have nn5 : NN ≤ 1024 := by rw [hNN]; exact Nat.mul_le_mul d32 d32
  have hr : opL n gs = apl n D D gs (tab NN (unitP D D)) := by unfold opL; rw [hNN, hD]
  rw [hr, ← hD, ← hNN]
  have hmx : m ≤ maxLen := by unfold maxLen; omega
  have n5 : (n : Int) ≤ 5 := by omega
  have uok : okM (D : Int) (D : Int) NN (tab NN (unitP D D)) = true := okM_iff.2 ⟨dd, dd, by rw [hNN]; simp, unit_ok D⟩
  have HA := hid hA
  have HM := hid hm
  have HO := hid hok
  have HX := hid hmx
  have HD := hid hD
  have EQ := hid hNN
  have DD := hid dd
  have HG := hid hG
  have UOK := hid uok
  have HAB := hid hAb
  clear hA hm hok hmx hD hNN dd hG uok hr hn' hAb
  go_enter Try.func64, Try.ntmps64
  go_wp2_with (fail)
  refine (C4.vcs HO.out ?_ HM.out HX.out).mono ?_
  · exact HA.out.mono (by (repeat' (first | (with_reducible exact Below.refl _ _) | (with_reducible assumption) | (with_reducible refine Below.alloc ?_ ?_ _) | (with_reducible refine Below.drew ?_) | (with_reducible refine below_drewN ?_ _) | (with_reducible refine Below.setCell ?_ ?_ _) | (with_reducible refine chain ?_ (by assumption) ?_) | omega | (simp; done) | (simp; omega))))
  rintro ee w1 ⟨rfl, hb1⟩
  have Xc1 : Bx w1 (w.heap.size) 42 #[.int .i64 (n : Int), .slice A m c1] := by (repeat' (first | (with_reducible assumption) | (refine Bx.new (by first | (with_reducible rfl) | (simp; done))) | (with_reducible refine Bx.alloc ?_ _) | (with_reducible refine Bx.drew ?_) | (with_reducible refine Bx.drewN ?_ _) | (with_reducible refine Bx.mono ?_ (by assumption)) | (with_reducible refine Bx.badly ?_ (by assumption) (by omega)) | (with_reducible refine Bx.far ?_ (by (try simp only [World.size_alloc, World.size_drew]); omega)) | (with_reducible refine Bx.set ?_ rfl) | (with_reducible refine Bx.grown ?_ (by assumption) (by assumption))))
  have Xz1 : Bx w1 (w.heap.size + 1) 30 #[.int .i64 0, .int .i64 0, .slice none 0 0] := by (repeat' (first | (with_reducible assumption) | (refine Bx.new (by first | (with_reducible rfl) | (simp; done))) | (with_reducible refine Bx.alloc ?_ _) | (with_reducible refine Bx.drew ?_) | (with_reducible refine Bx.drewN ?_ _) | (with_reducible refine Bx.mono ?_ (by assumption)) | (with_reducible refine Bx.badly ?_ (by assumption) (by omega)) | (with_reducible refine Bx.far ?_ (by (try simp only [World.size_alloc, World.size_drew]); omega)) | (with_reducible refine Bx.set ?_ rfl) | (with_reducible refine Bx.grown ?_ (by assumption) (by assumption))))
  have hz1 := hb1.size
  (try simp only [World.size_alloc] at hz1)
  have hw1 : Below w.heap.size w w1 := by (repeat' (first | (with_reducible exact Below.refl _ _) | (with_reducible assumption) | (with_reducible refine Below.alloc ?_ ?_ _) | (with_reducible refine Below.drew ?_) | (with_reducible refine below_drewN ?_ _) | (with_reducible refine Below.setCell ?_ ?_ _) | (with_reducible refine chain ?_ (by assumption) ?_) | omega | (simp; done) | (simp; omega)))
  have c0 := Xc1.c 0 rfl
  have c1' := Xc1.c 1 rfl
  have lc := Xc1.lt
  clear hb1
  go_upto_region 4 with (fail)
  obtain ⟨W, hW⟩ : ∃ W : World, W = w1.alloc (.cells #[.bool false] 116) := ⟨_, rfl⟩
  have hbW : Below w1.heap.size w1 W := by rw [hW]; exact (Below.refl _ _).alloc (Nat.le_refl _) _
  have Xf : Bx W w1.heap.size 116 #[.bool false] := by rw [hW]; exact Bx.new rfl
  have hzW : w1.heap.size < W.heap.size := by rw [hW]; simp
  have hzW2 : W.heap.size ≤ w1.heap.size + 1 := by rw [hW]; simp
  rw [← hW]
  clear hW c0 c1' lc
  have Xc := Xc1.mono hbW
  have Xz := Xz1.mono hbW
  have hwW : Below w.heap.size w W := chain hw1 hbW hw1.size
  clear Xc1 Xz1
  have c0 := Xc.c 0 rfl
  have c1' := Xc.c 1 rfl
  have hAl : ∀ a, A = some a → a.block < w.heap.size := HAB.out
  have hsh : IntKind.i64.wrap (2 ^ min (IntKind.u64.wrap (n : Int)).toNat 64) = (D : Int) := by
    have hu : IntKind.u64.wrap (n : Int) = (n : Int) := by
      have : n = 1 ∨ n = 2 ∨ n = 3 ∨ n = 4 ∨ n = 5 := by omega
      rcases this with rfl | rfl | rfl | rfl | rfl <;> rfl
    rw [hu, Int.toNat_natCast, Nat.min_eq_left (by omega)]
    exact dw2
  cases hq : apl n D D gs (tab NN (unitP D D)) with
  | none =>
    have yc0 : W.drew.cell? ⟨w.heap.size, 0, none⟩ = some (.int .i64 (n : Int)) := c0
    have yc1' : W.drew.cell? ⟨w.heap.size, 1, none⟩ = some (.slice A m c1) := c1'
    refine wp_region_x (fun w' => w'.cell? ⟨w.heap.size, 0, none⟩ = some (.int .i64 (n : Int)) ∧ w'.cell? ⟨w.heap.size, 1, none⟩ = some (.slice A m c1)) 1000 (by kernel_rfl) ⟨yc0, yc1'⟩ (fun hS0 => ?_)
    refine wpAnyX_take (i := 0) (oi := _) (v := ?_) rfl (by kernel_rfl) (by kernel_rfl) (by kernel_rfl) (by kernel_rfl) (fun _ _ _ h => h) (Or.inl ⟨by rfl, ?_⟩) hS0 ?_
    rotate_left 1
    · (intro w hSw; (try dsimp only at hSw); go_simp; (try with_reducible rfl))
    try simp only [Act.put, List.setIfInBounds_toArray, List.set_cons_zero, List.set_cons_succ]
    refine wpAnyX_take (i := 1) (oi := _) (v := ?_) rfl (by kernel_rfl) (by kernel_rfl) (by kernel_rfl) (by kernel_rfl) (fun _ _ _ h => h) (Or.inl ⟨by rfl, ?_⟩) hS0 ?_
    rotate_left 1
    · (intro w hSw; (try dsimp only at hSw); go_simp; (try with_reducible rfl))
    try simp only [Act.put, List.setIfInBounds_toArray, List.set_cons_zero, List.set_cons_succ]
    refine wpAnyX_take (i := 2) (oi := _) (v := ?_) rfl (by kernel_rfl) (by kernel_rfl) (by kernel_rfl) (by kernel_rfl) (fun _ _ _ h => h) (Or.inl ⟨by rfl, ?_⟩) hS0 ?_
    rotate_left 1
    · (intro w hSw; (try dsimp only at hSw); go_simp; (try with_reducible rfl))
    try simp only [Act.put, List.setIfInBounds_toArray, List.set_cons_zero, List.set_cons_succ]
    refine wpAnyX_take (i := 3) (oi := _) (v := ?_) rfl (by kernel_rfl) (by kernel_rfl) (by kernel_rfl) (by kernel_rfl) (fun _ _ _ h => h) (Or.inl ⟨by rfl, ?_⟩) hS0 ?_
    rotate_left 1
    · (intro w hSw; (try dsimp only at hSw); go_simp; (try with_reducible rfl))
    try simp only [Act.put, List.setIfInBounds_toArray, List.set_cons_zero, List.set_cons_succ]
    refine wpAnyX_take (i := 4) (oi := _) (v := ?_) rfl (by kernel_rfl) (by kernel_rfl) (by kernel_rfl) (by kernel_rfl) (fun _ _ _ h => h) (Or.inl ⟨by rfl, ?_⟩) hS0 ?_
    rotate_left 1
    · (intro w hSw; (try dsimp only at hSw); go_simp; (try with_reducible rfl))
    try simp only [Act.put, List.setIfInBounds_toArray, List.set_cons_zero, List.set_cons_succ]
    refine wpAnyX_take (i := 5) (oi := _) (v := ?_) rfl (by kernel_rfl) (by kernel_rfl) (by kernel_rfl) (by kernel_rfl) (fun _ _ _ h => h) (Or.inl ⟨by rfl, ?_⟩) hS0 ?_
    rotate_left 1
    · (intro w hSw; (try dsimp only at hSw); go_simp; (try with_reducible rfl))
    try simp only [Act.put, List.setIfInBounds_toArray, List.set_cons_zero, List.set_cons_succ]
    refine wpAnyX_take (i := 6) (oi := _) (v := ?_) rfl (by kernel_rfl) (by kernel_rfl) (by kernel_rfl) (by kernel_rfl) (fun _ _ _ h => h) (Or.inl ⟨by rfl, ?_⟩) hS0 ?_
    rotate_left 1
    · (intro w hSw; (try dsimp only at hSw); go_simp; (try with_reducible rfl))
    try simp only [Act.put, List.setIfInBounds_toArray, List.set_cons_zero, List.set_cons_succ]
    refine wpAnyX_one (i := 7) (o := _) rfl (by kernel_rfl) (fun K hK => ?_)
    go_simp
    (try simp only [hsh])
    refine (unit_s (N := D) (n := NN) EQ.out (by omega) d32 nn5).mono ?_
    rintro ee w2 ⟨rfl, hK2, hb20⟩
    have hb2 := undrewK hb20
    have hz2 := hb2.size
    (try simp only [World.size_drew] at hK2)
    refine hK.out _ _ (fun _ => ?_) (fun hS1 => ?_)
    · exact ⟨kc hb20 (hS0.1), kc hb20 (hS0.2)⟩
    clear hK K
    have hS1 := hS1 (by decide)
    try simp only [Act.put, List.setIfInBounds_toArray, List.set_cons_zero, List.set_cons_succ]
    refine wpAnyX_one (i := 8) (o := _) rfl (by kernel_rfl) (fun K hK => ?_)
    go_simp
    refine (lrun (n := n) (D := D) (C := D) (N := NN) (m := m) (c1 := c1) (A := A) (gs := gs) (gc := w1.heap.size) (xs := tab NN (unitP D D)) (HA.out.mono (chain hwW hb2 hwW.size)) (fun a ha => by have := (hAl a ha); omega) HM.out hm4 HG.out h1 h5 HD.out DD.out EQ.out hK2.rd (by (try simp only [World.size_drew]); omega) (by have := hK2.lt; (try simp only [World.size_drew] at this ⊢); omega) (tab_len _ _) UOK.out (Xf.mono hb2)).mono ?_
    rintro ee w3 ⟨z, zs, h, o, cq, rfl, hl, hzf, hzt, hR3, hh3, hb3⟩
    have hz3 := bad_size hb3
    have Xf3 := (Xf.mono hb2).bad hb3
    obtain rfl : z = true := by
      cases z
      · rw [hzf rfl] at hq; cases hq
      · rfl
    have f0 := Xf3.c 0 rfl
    have lf3 := Xf3.lt
    refine hK.out _ _ (fun _ => ?_) (fun hS2 => ?_)
    · exact ⟨kbad hb3 (by omega) (hS1.1), kbad hb3 (by omega) (hS1.2)⟩
    clear hK K
    have hS2 := hS2 (by decide)
    try simp only [Act.put, List.setIfInBounds_toArray, List.set_cons_zero, List.set_cons_succ]
    refine wpAnyX_one (i := 9) (o := _) rfl (by kernel_rfl) (fun K hK => ?_)
    go_simp
    refine (cmat_t f0).mono ?_
    rintro ee w4 ⟨rfl, hb4⟩
    have hz4 := hb4.size
    refine hK.out _ _ (fun _ => ?_) (fun hS3 => ?_)
    · exact ⟨kc hb4 (hS2.1), kc hb4 (hS2.2)⟩
    clear hK K
    have hS3 := hS3 (by decide)
    try simp only [Act.put, List.setIfInBounds_toArray, List.set_cons_zero, List.set_cons_succ]
    refine wpAnyX_take (i := 10) (oi := _) (v := ?_) rfl (by kernel_rfl) (by kernel_rfl) (by kernel_rfl) (by kernel_rfl) (fun _ _ _ h => h) (Or.inl ⟨by rfl, ?_⟩) hS3 ?_
    rotate_left 1
    · (intro w hSw; (try dsimp only at hSw); go_simp; (try with_reducible rfl))
    try simp only [Act.put, List.setIfInBounds_toArray, List.set_cons_zero, List.set_cons_succ]
    refine wpAnyX_take (i := 11) (oi := _) (v := ?_) rfl (by kernel_rfl) (by kernel_rfl) (by kernel_rfl) (by kernel_rfl) (fun _ _ _ h => h) (Or.inl ⟨by rfl, ?_⟩) hS3 ?_
    rotate_left 1
    · (intro w hSw; (try dsimp only at hSw); go_simp; (try with_reducible rfl))
    try simp only [Act.put, List.setIfInBounds_toArray, List.set_cons_zero, List.set_cons_succ]
    refine wpAnyX_one (i := 12) (o := _) rfl (by kernel_rfl) (fun K hK => ?_)
    have Xz4 := ((Xz.mono hb2).badly hb3 (by omega)).mono hb4
    have e0 := Xz4.c 0 rfl
    have e1 := Xz4.c 1 rfl
    have e2 := Xz4.c 2 rfl
    have ef := Xz4.f
    have el := Xz4.lt
    go_simp
    refine hK.out _ _ (fun _ => ?_) (fun hS4 => ?_)
    · first | exact ⟨kst3 (by omega) (hS3.1), kst3 (by omega) (hS3.2)⟩ | exact ⟨kc (Below.refl _ _) (hS3.1), kc (Below.refl _ _) (hS3.2)⟩
    clear hK K
    have hS4 := hS4 (by decide)
    try simp only [Act.put, List.setIfInBounds_toArray, List.set_cons_zero, List.set_cons_succ]
    refine wpAnyX_take (i := 13) (oi := _) (v := ?_) rfl (by kernel_rfl) (by kernel_rfl) (by kernel_rfl) (by kernel_rfl) (fun _ _ _ h => h) (Or.inl ⟨by rfl, ?_⟩) hS4 ?_
    rotate_left 1
    · (intro w hSw; (try dsimp only at hSw); go_simp; (try with_reducible rfl))
    change wpAnyX _ _ _ _ _ _ _ _ (Act.put _ (some 3) _) _
    try simp only [Act.put, List.setIfInBounds_toArray, List.set_cons_zero, List.set_cons_succ]
    refine wpAnyX_done (by kernel_rfl) ?_ _
    have hB2 : Below w.heap.size w w2 := chain hwW hb2 hwW.size
    have hB3 : Below w.heap.size w w3 := bad_below hB2 hb3 (by omega)
    have hB4 : Below w.heap.size w w4 := chain hB3 hb4 hB3.size
    have HQ := hid hq
    clear hzf hzt hR3 hb3 hb4 hq
    go_wp2_with fail
    refine bodyPost_ret (v := mt 0 0 none 0 0 false) (by first | (simp [results, Try.results64, go_sem, *]; done) | (simp (disch := (first | omega | (simp; done) | (simp; omega))) [results, Try.results64, go_sem, *]; done) | (simp only [results, Try.results64]; go_simp; done)) rfl ⟨fun _ => rfl, fun zs k => ?_, ?_⟩
    · rw [HQ.out] at k; cases k
    · (repeat' (first | (with_reducible exact Below.refl _ _) | (with_reducible assumption) | (with_reducible refine Below.alloc ?_ ?_ _) | (with_reducible refine Below.drew ?_) | (with_reducible refine below_drewN ?_ _) | (with_reducible refine Below.setCell ?_ ?_ _) | (with_reducible refine chain ?_ (by assumption) ?_) | omega | (simp; done) | (simp; omega)))
  | some ys =>
    have yc0 : W.drew.cell? ⟨w.heap.size, 0, none⟩ = some (.int .i64 (n : Int)) := c0
    have yc1' : W.drew.cell? ⟨w.heap.size, 1, none⟩ = some (.slice A m c1) := c1'
    refine wp_region_x (fun w' => w'.cell? ⟨w.heap.size, 0, none⟩ = some (.int .i64 (n : Int)) ∧ w'.cell? ⟨w.heap.size, 1, none⟩ = some (.slice A m c1)) 1000 (by kernel_rfl) ⟨yc0, yc1'⟩ (fun hS0 => ?_)
    refine wpAnyX_take (i := 0) (oi := _) (v := ?_) rfl (by kernel_rfl) (by kernel_rfl) (by kernel_rfl) (by kernel_rfl) (fun _ _ _ h => h) (Or.inl ⟨by rfl, ?_⟩) hS0 ?_
    rotate_left 1
    · (intro w hSw; (try dsimp only at hSw); go_simp; (try with_reducible rfl))
    try simp only [Act.put, List.setIfInBounds_toArray, List.set_cons_zero, List.set_cons_succ]
    refine wpAnyX_take (i := 1) (oi := _) (v := ?_) rfl (by kernel_rfl) (by kernel_rfl) (by kernel_rfl) (by kernel_rfl) (fun _ _ _ h => h) (Or.inl ⟨by rfl, ?_⟩) hS0 ?_
    rotate_left 1
    · (intro w hSw; (try dsimp only at hSw); go_simp; (try with_reducible rfl))
    try simp only [Act.put, List.setIfInBounds_toArray, List.set_cons_zero, List.set_cons_succ]
    refine wpAnyX_take (i := 2) (oi := _) (v := ?_) rfl (by kernel_rfl) (by kernel_rfl) (by kernel_rfl) (by kernel_rfl) (fun _ _ _ h => h) (Or.inl ⟨by rfl, ?_⟩) hS0 ?_
    rotate_left 1
    · (intro w hSw; (try dsimp only at hSw); go_simp; (try with_reducible rfl))
    try simp only [Act.put, List.setIfInBounds_toArray, List.set_cons_zero, List.set_cons_succ]
    refine wpAnyX_take (i := 3) (oi := _) (v := ?_) rfl (by kernel_rfl) (by kernel_rfl) (by kernel_rfl) (by kernel_rfl) (fun _ _ _ h => h) (Or.inl ⟨by rfl, ?_⟩) hS0 ?_
    rotate_left 1
    · (intro w hSw; (try dsimp only at hSw); go_simp; (try with_reducible rfl))
    try simp only [Act.put, List.setIfInBounds_toArray, List.set_cons_zero, List.set_cons_succ]
    refine wpAnyX_take (i := 4) (oi := _) (v := ?_) rfl (by kernel_rfl) (by kernel_rfl) (by kernel_rfl) (by kernel_rfl) (fun _ _ _ h => h) (Or.inl ⟨by rfl, ?_⟩) hS0 ?_
    rotate_left 1
    · (intro w hSw; (try dsimp only at hSw); go_simp; (try with_reducible rfl))
    try simp only [Act.put, List.setIfInBounds_toArray, List.set_cons_zero, List.set_cons_succ]
    refine wpAnyX_take (i := 5) (oi := _) (v := ?_) rfl (by kernel_rfl) (by kernel_rfl) (by kernel_rfl) (by kernel_rfl) (fun _ _ _ h => h) (Or.inl ⟨by rfl, ?_⟩) hS0 ?_
    rotate_left 1
    · (intro w hSw; (try dsimp only at hSw); go_simp; (try with_reducible rfl))
    try simp only [Act.put, List.setIfInBounds_toArray, List.set_cons_zero, List.set_cons_succ]
    refine wpAnyX_take (i := 6) (oi := _) (v := ?_) rfl (by kernel_rfl) (by kernel_rfl) (by kernel_rfl) (by kernel_rfl) (fun _ _ _ h => h) (Or.inl ⟨by rfl, ?_⟩) hS0 ?_
    rotate_left 1
    · (intro w hSw; (try dsimp only at hSw); go_simp; (try with_reducible rfl))
    try simp only [Act.put, List.setIfInBounds_toArray, List.set_cons_zero, List.set_cons_succ]
    refine wpAnyX_one (i := 7) (o := _) rfl (by kernel_rfl) (fun K hK => ?_)
    go_simp
    (try simp only [hsh])
    refine (unit_s (N := D) (n := NN) EQ.out (by omega) d32 nn5).mono ?_
    rintro ee w2 ⟨rfl, hK2, hb20⟩
    have hb2 := undrewK hb20
    have hz2 := hb2.size
    (try simp only [World.size_drew] at hK2)
    refine hK.out _ _ (fun _ => ?_) (fun hS1 => ?_)
    · exact ⟨kc hb20 (hS0.1), kc hb20 (hS0.2)⟩
    clear hK K
    have hS1 := hS1 (by decide)
    try simp only [Act.put, List.setIfInBounds_toArray, List.set_cons_zero, List.set_cons_succ]
    refine wpAnyX_one (i := 8) (o := _) rfl (by kernel_rfl) (fun K hK => ?_)
    go_simp
    refine (lrun (n := n) (D := D) (C := D) (N := NN) (m := m) (c1 := c1) (A := A) (gs := gs) (gc := w1.heap.size) (xs := tab NN (unitP D D)) (HA.out.mono (chain hwW hb2 hwW.size)) (fun a ha => by have := (hAl a ha); omega) HM.out hm4 HG.out h1 h5 HD.out DD.out EQ.out hK2.rd (by (try simp only [World.size_drew]); omega) (by have := hK2.lt; (try simp only [World.size_drew] at this ⊢); omega) (tab_len _ _) UOK.out (Xf.mono hb2)).mono ?_
    rintro ee w3 ⟨z, zs, h, o, cq, rfl, hl, hzf, hzt, hR3, hh3, hb3⟩
    have hz3 := bad_size hb3
    have Xf3 := (Xf.mono hb2).bad hb3
    obtain rfl : z = false := by
      cases z
      · rfl
      · rw [hzt rfl] at hq; cases hq
    have f0 := Xf3.c 0 rfl
    have lf3 := Xf3.lt
    refine hK.out _ _ (fun _ => ?_) (fun hS2 => ?_)
    · exact ⟨kbad hb3 (by omega) (hS1.1), kbad hb3 (by omega) (hS1.2)⟩
    clear hK K
    have hS2 := hS2 (by decide)
    try simp only [Act.put, List.setIfInBounds_toArray, List.set_cons_zero, List.set_cons_succ]
    refine wpAnyX_one (i := 9) (o := _) rfl (by kernel_rfl) (fun K hK => ?_)
    go_simp
    refine (cmat_f f0).mono ?_
    rintro ee w4 ⟨rfl, hb4⟩
    have hz4 := hb4.size
    refine hK.out _ _ (fun _ => ?_) (fun hS3 => ?_)
    · exact ⟨kc hb4 (hS2.1), kc hb4 (hS2.2)⟩
    clear hK K
    have hS3 := hS3 (by decide)
    try simp only [Act.put, List.setIfInBounds_toArray, List.set_cons_zero, List.set_cons_succ]
    refine wpAnyX_take (i := 10) (oi := _) (v := ?_) rfl (by kernel_rfl) (by kernel_rfl) (by kernel_rfl) (by kernel_rfl) (fun _ _ _ h => h) (Or.inl ⟨by rfl, ?_⟩) hS3 ?_
    rotate_left 1
    · (intro w hSw; (try dsimp only at hSw); go_simp; (try with_reducible rfl))
    try simp only [Act.put, List.setIfInBounds_toArray, List.set_cons_zero, List.set_cons_succ]
    refine wpAnyX_take (i := 11) (oi := _) (v := ?_) rfl (by kernel_rfl) (by kernel_rfl) (by kernel_rfl) (by kernel_rfl) (fun _ _ _ h => h) (Or.inl ⟨by rfl, ?_⟩) hS3 ?_
    rotate_left 1
    · (intro w hSw; (try dsimp only at hSw); go_simp; (try with_reducible rfl))
    try simp only [Act.put, List.setIfInBounds_toArray, List.set_cons_zero, List.set_cons_succ]
    refine wpAnyX_one (i := 12) (o := _) rfl (by kernel_rfl) (fun K hK => ?_)
    have Xz4 := ((Xz.mono hb2).badly hb3 (by omega)).mono hb4
    have e0 := Xz4.c 0 rfl
    have e1 := Xz4.c 1 rfl
    have e2 := Xz4.c 2 rfl
    have ef := Xz4.f
    have el := Xz4.lt
    go_simp
    refine hK.out _ _ (fun _ => ?_) (fun hS4 => ?_)
    · first | exact ⟨kst3 (by omega) (hS3.1), kst3 (by omega) (hS3.2)⟩ | exact ⟨kc (Below.refl _ _) (hS3.1), kc (Below.refl _ _) (hS3.2)⟩
    clear hK K
    have hS4 := hS4 (by decide)
    try simp only [Act.put, List.setIfInBounds_toArray, List.set_cons_zero, List.set_cons_succ]
    refine wpAnyX_take (i := 13) (oi := _) (v := ?_) rfl (by kernel_rfl) (by kernel_rfl) (by kernel_rfl) (by kernel_rfl) (fun _ _ _ h => h) (Or.inl ⟨by rfl, ?_⟩) hS4 ?_
    rotate_left 1
    · (intro w hSw; (try dsimp only at hSw); go_simp; (try with_reducible rfl))
    change wpAnyX _ _ _ _ _ _ _ _ (Act.put _ (some 3) _) _
    try simp only [Act.put, List.setIfInBounds_toArray, List.set_cons_zero, List.set_cons_succ]
    refine wpAnyX_done (by kernel_rfl) ?_ _
    have hB2 : Below w.heap.size w w2 := chain hwW hb2 hwW.size
    have hB3 : Below w.heap.size w w3 := bad_below hB2 hb3 (by omega)
    have hB4 : Below w.heap.size w w4 := chain hB3 hb4 hB3.size
    have HR4 := hid (hR3.mono hb4)
    obtain ⟨rfl⟩ : zs = ys := Option.some.inj ((hzf rfl).symm.trans hq)
    have HQ := hid hq
    clear hzf hzt hR3 hb3 hb4 hq
    go_wp2_with fail
    refine bodyPost_ret (v := mt (D : Int) (D : Int) (some ⟨h, o, none⟩) NN cq true) (by first | (simp [results, Try.results64, go_sem, *]; done) | (simp (disch := (first | omega | (simp; done) | (simp; omega))) [results, Try.results64, go_sem, *]; done) | (simp only [results, Try.results64]; go_simp; done)) rfl ⟨fun k => ?_, fun zs k => ?_, ?_⟩
    · rw [HQ.out] at k; cases k
    · rw [HQ.out] at k
      obtain rfl := Option.some.inj k
      refine ⟨some ⟨h, o, none⟩, cq, rfl, ?_, fun a ha => by obtain rfl := Option.some.inj ha; show w.heap.size ≤ h; (try simp only [World.size_drew] at hh3); omega⟩
      (repeat' (first | exact HR4.out | refine Rd.far ?_ (fun a ha => by obtain rfl := Option.some.inj ha; show h ≠ w.heap.size + 1; (try simp only [World.size_drew] at hh3); omega) _))
    · (repeat' (first | (with_reducible exact Below.refl _ _) | (with_reducible assumption) | (with_reducible refine Below.alloc ?_ ?_ _) | (with_reducible refine Below.drew ?_) | (with_reducible refine below_drewN ?_ _) | (with_reducible refine Below.setCell ?_ ?_ _) | (with_reducible refine chain ?_ (by assumption) ?_) | omega | (simp; done) | (simp; omega)))

end Go.Proofs.Ytofclfgaekjonaa
namespace Go.Proofs.Ytofclfgaekjonaa
open Go.RowKit RM
set_option linter.unusedVariables false
set_option linter.unusedSimpArgs false
attribute [local irreducible] World.setCell

open GM
theorem apl_len {n D C : Nat} : ∀ (gs : List C4.GateV) (xs ys : List D5), apl n D C gs xs = some ys → xs.length = D * C → ys.length = D * C := by
  intro gs
  induction gs with
  | nil => intro xs ys h hx; obtain rfl := Option.some.inj h; exact hx
  | cons g gs ih =>
    intro xs ys h hx
    have h2 : (if stB n D C g xs then none else apl n D C gs (stF n D C g xs)) = some ys := h
    split at h2
    · cases h2
    · exact ih _ _ h2 stF_len

end Go.Proofs.Ytofclfgaekjonaa
namespace Go.Proofs.Ytofclfgaekjonaa
open Go.RowKit RM
set_option linter.unusedSimpArgs false
theorem fieldsOf_of {P : Program} {t : TypeId} {fs : Array Field} (h : P.underlying t = some (.struct fs)) : P.fieldsOf t = fs := by unfold Program.fieldsOf; rw [h]
theorem fR : ∃ f0 f1 f2 f3 : Field, (Try.prog.fieldsOf 97).toList = [f0, f1, f2, f3] ∧ (f0.type = 3 ∧ f1.type = 3 ∧ f2.type = 3 ∧ f3.type = 3) ∧ (f0.offset = 0 ∧ f1.offset = 1 ∧ f2.offset = 2 ∧ f3.offset = 3) ∧ (f0.name ≠ "_" ∧ f1.name ≠ "_" ∧ f2.name ≠ "_" ∧ f3.name ≠ "_") :=
  ⟨_, _, _, _, congrArg Array.toList (fieldsOf_of Try.underlying97), ⟨rfl, rfl, rfl, rfl⟩, ⟨rfl, rfl, rfl, rfl⟩, ⟨by decide, by decide, by decide, by decide⟩⟩
theorem fD : ∃ f0 f1 : Field, (Try.prog.fieldsOf 99).toList = [f0, f1] ∧ (f0.type = 97 ∧ f1.type = 3) ∧ (f0.offset = 0 ∧ f1.offset = 4) ∧ (f0.name ≠ "_" ∧ f1.name ≠ "_") :=
  ⟨_, _, congrArg Array.toList (fieldsOf_of Try.underlying99), ⟨rfl, rfl⟩, ⟨rfl, rfl⟩, ⟨by decide, by decide⟩⟩
theorem pR (a b c d : Int) (w : World) : (part 3 #[.int .i64 a, .int .i64 b, .int .i64 c, .int .i64 d] 0).run Try.prog w = .ok (.int .i64 a) w ∧ (part 3 #[.int .i64 a, .int .i64 b, .int .i64 c, .int .i64 d] 1).run Try.prog w = .ok (.int .i64 b) w
    ∧ (part 3 #[.int .i64 a, .int .i64 b, .int .i64 c, .int .i64 d] 2).run Try.prog w = .ok (.int .i64 c) w ∧ (part 3 #[.int .i64 a, .int .i64 b, .int .i64 c, .int .i64 d] 3).run Try.prog w = .ok (.int .i64 d) w :=
  ⟨by kernel_rfl, by kernel_rfl, by kernel_rfl, by kernel_rfl⟩
theorem pD (a b c d e : Int) (w : World) : (part 97 #[.int .i64 a, .int .i64 b, .int .i64 c, .int .i64 d, .int .i64 e] 0).run Try.prog w = .ok (rg a b c d) w ∧ (part 3 #[.int .i64 a, .int .i64 b, .int .i64 c, .int .i64 d, .int .i64 e] 4).run Try.prog w = .ok (.int .i64 e) w :=
  ⟨by kernel_rfl, by kernel_rfl⟩
theorem uR : Try.prog.underlying 97 = some (.struct (Try.prog.fieldsOf 97)) := by kernel_rfl
theorem uD : Try.prog.underlying 99 = some (.struct (Try.prog.fieldsOf 99)) := by kernel_rfl
theorem sR : Try.prog.stoodInHeld 97 = false := by kernel_rfl
theorem sD : Try.prog.stoodInHeld 99 = false := by kernel_rfl
theorem eqR (k : Nat) (a b c d p q r s : Int) (w : World) : (Op.equalIn (k + 2) 97 (rg a b c d) (rg p q r s)).run Try.prog w = .ok (a == p && (b == q && (c == r && d == s))) w := by
  obtain ⟨f0, f1, f2, f3, hf, ⟨t0, t1, t2, t3⟩, ⟨o0, o1, o2, o3⟩, ⟨n0, n1, n2, n3⟩⟩ := fR
  rw [run_equalIn_struct w (k + 1) _ _ _ uR sR, hf]
  obtain ⟨x0, x1, x2, x3⟩ := pR a b c d w
  obtain ⟨y0, y1, y2, y3⟩ := pR p q r s w
  have e0 := fun w => run_equalIn_int w k 3 .i64 .i64 a p Try.underlying3
  have e1 := fun w => run_equalIn_int w k 3 .i64 .i64 b q Try.underlying3
  have e2 := fun w => run_equalIn_int w k 3 .i64 .i64 c r Try.underlying3
  have e3 := fun w => run_equalIn_int w k 3 .i64 .i64 d s Try.underlying3
  cases h0 : (a == p) <;> cases h1 : (b == q) <;> cases h2 : (c == r) <;> cases h3 : (d == s) <;> (rw [h0] at e0; rw [h1] at e1; rw [h2] at e2; rw [h3] at e3; simp [Op.eqFields, t0, t1, t2, t3, o0, o1, o2, o3, n0, n1, n2, n3, x0, x1, x2, x3, y0, y1, y2, y3, e0, e1, e2, e3])
theorem eqD (k : Nat) (a b c d e p q r s f : Int) (w : World) : (Op.equalIn (k + 3) 99 (dy a b c d e) (dy p q r s f)).run Try.prog w = .ok ((a == p && (b == q && (c == r && d == s))) && e == f) w := by
  obtain ⟨f0, f1, hf, ⟨t0, t1⟩, ⟨o0, o1⟩, ⟨n0, n1⟩⟩ := fD
  rw [run_equalIn_struct w (k + 2) _ _ _ uD sD, hf]
  obtain ⟨x0, x1⟩ := pD a b c d e w
  obtain ⟨y0, y1⟩ := pD p q r s f w
  have e0 := fun w => eqR k a b c d p q r s w
  have e1 := fun w => run_equalIn_int w (k + 1) 3 .i64 .i64 e f Try.underlying3
  cases h0 : (a == p && (b == q && (c == r && d == s))) <;> cases h1 : (e == f) <;> (rw [h0] at e0; rw [h1] at e1; simp [Op.eqFields, t0, t1, o0, o1, n0, n1, x0, x1, y0, y1, e0, e1])
theorem run_neqD (a b c d e p q r s f : Int) (v : Bool) (w : World) (h : ((a == p && (b == q && (c == r && d == s))) && e == f) = v) : (binOp .neq 99 (dy a b c d e) (dy p q r s f)).run Try.prog w = .ok (.bool (!v)) w := by
  subst h
  simp only [binOp]
  simp [Op.equal, Op.maxDepth, eqD 9997 a b c d e p q r s f w]
theorem run_eqlD (a b c d e p q r s f : Int) (v : Bool) (w : World) (h : ((a == p && (b == q && (c == r && d == s))) && e == f) = v) : (binOp .eql 99 (dy a b c d e) (dy p q r s f)).run Try.prog w = .ok (.bool v) w := by
  subst h
  simp only [binOp]
  simp [Op.equal, Op.maxDepth, eqD 9997 a b c d e p q r s f w]
theorem eqv5 {x y : D5} : ((x.a == y.a && (x.b == y.b && (x.c == y.c && x.d == y.d))) && x.e == y.e) = decide (x.a = y.a ∧ x.b = y.b ∧ x.c = y.c ∧ x.d = y.d ∧ x.e = y.e) := by
  rw [Bool.eq_iff_iff]; simp [and_assoc]
theorem ne_all5 {x y : D5} (h : x ≠ y) : ¬ (x.a = y.a ∧ x.b = y.b ∧ x.c = y.c ∧ x.d = y.d ∧ x.e = y.e) := by
  obtain ⟨a, b, c, d, e⟩ := x
  obtain ⟨p, q, r, s, f⟩ := y
  rintro ⟨rfl, rfl, rfl, rfl, rfl⟩
  exact h rfl
/-- two numbers that differ; a number and itself -/
theorem neq_t {x y : D5} (h : x ≠ y) (w : World) : (binOp .neq 99 x.v y.v).run Try.prog w = .ok (.bool true) w :=
  run_neqD _ _ _ _ _ _ _ _ _ _ false w (by rw [eqv5, decide_eq_false (ne_all5 h)])
theorem neq_f (x : D5) (w : World) : (binOp .neq 99 x.v x.v).run Try.prog w = .ok (.bool false) w :=
  run_neqD _ _ _ _ _ _ _ _ _ _ true w (by rw [eqv5]; simp)
theorem eql_f {x y : D5} (h : x ≠ y) (w : World) : (binOp .eql 99 x.v y.v).run Try.prog w = .ok (.bool false) w :=
  run_eqlD _ _ _ _ _ _ _ _ _ _ false w (by rw [eqv5, decide_eq_false (ne_all5 h)])
end Go.Proofs.Ytofclfgaekjonaa
namespace Go.Proofs.Ytofclfgaekjonaa
open Go.RowKit RM
set_option linter.unusedVariables false
set_option linter.unusedSimpArgs false
attribute [local irreducible] World.setCell

/-- equality of numbers, of lists of them -/
def D5.beq (x y : D5) : Bool := x.a == y.a && x.b == y.b && x.c == y.c && x.d == y.d && x.e == y.e
theorem beq_iff5 {x y : D5} : x.beq y = true ↔ x = y := by
  obtain ⟨a, b, c, d, e⟩ := x
  obtain ⟨p, q, r, s, f⟩ := y
  simp [D5.beq, and_assoc]
end Go.Proofs.Ytofclfgaekjonaa
