/- IsPhase: the model. -/
import Derived.Test.YtnjckeadcbfogaaIa
namespace Go.Proofs.Ytnjckeadcbfogaa
open Go.RowKit RM
set_option linter.unusedVariables false
set_option linter.unusedSimpArgs false
attribute [local irreducible] World.setCell

open GM
set_option maxRecDepth 100000 in
set_option maxHeartbeats 8000000 in
theorem ip_s_t {a0 : Int} {A : Option Addr} {m c1 D NN : Nat} {gs : List C4.GateV} {zs : List D5} {w : World} (hF : ∀ W : World, Below w.heap.size w W → Calls Try.prog 31 #[C4.circuitV a0 A m c1] W fun ee w' => ∃ (Bo : Option Addr) (cq : Nat), ee = .returned (mt (D : Int) (D : Int) Bo NN cq true) ∧ Rd w' Bo zs ∧ Below W.heap.size W w') (hl : zs.length = NN) (hNN : NN = D * D) (h1 : 1 ≤ D) (d32 : D ≤ 32) :
    Calls Try.prog 40 #[C4.circuitV a0 A m c1] w fun ee w' => PH mk3 (badK (D : Int) (D : Int) (D : Int) (D : Int) NN zs (tab NN (unitP D D))) w w' ee := by
  have HF := hid hF
  have HL := hid hl
  have nn5 : NN ≤ 1024 := by rw [hNN]; exact Nat.mul_le_mul d32 d32
  have EQ := hid hNN
  clear hF hl hNN
  go_enter Try.func40, Try.ntmps40
  go_wp2_with (fail)
  refine (HF.out _ (by (repeat' (first | (with_reducible exact Below.refl _ _) | (with_reducible assumption) | (with_reducible refine Below.alloc ?_ ?_ _) | (with_reducible refine Below.drew ?_) | (with_reducible refine below_drewN ?_ _) | (with_reducible refine Below.setCell ?_ ?_ _) | (with_reducible refine chain ?_ (by assumption) ?_) | omega | (simp; done) | (simp; omega))))).mono ?_
  rintro ee w1 ⟨Bo, cq, rfl, hR1, hb1⟩
  have hz1 := hb1.size
  (try simp only [World.size_alloc] at hz1)
  have hw1 : Below w.heap.size w w1 := by (repeat' (first | (with_reducible exact Below.refl _ _) | (with_reducible assumption) | (with_reducible refine Below.alloc ?_ ?_ _) | (with_reducible refine Below.drew ?_) | (with_reducible refine below_drewN ?_ _) | (with_reducible refine Below.setCell ?_ ?_ _) | (with_reducible refine chain ?_ (by assumption) ?_) | omega | (simp; done) | (simp; omega)))
  have HR1 := hid hR1
  clear hR1 hb1
  go_upto_region 4 with (fail)
  obtain ⟨W, hW⟩ : ∃ W : World, W = w1.alloc (.cells #[.int .i64 (D : Int), .int .i64 (D : Int), .slice Bo NN cq] 28) := ⟨_, rfl⟩
  have hbW : Below w1.heap.size w1 W := by rw [hW]; exact (Below.refl _ _).alloc (Nat.le_refl _) _
  have Xm : Bx W w1.heap.size 28 #[.int .i64 (D : Int), .int .i64 (D : Int), .slice Bo NN cq] := by rw [hW]; exact Bx.new rfl
  have hzW : w1.heap.size < W.heap.size := by rw [hW]; simp
  rw [← hW]
  clear hW
  have hwW : Below w.heap.size w W := chain hw1 hbW hw1.size
  have cm0 := Xm.c 0 rfl
  have cm1 := Xm.c 1 rfl
  have cm2 := Xm.c 2 rfl
  rcases ph_any (badK (D : Int) (D : Int) (D : Int) (D : Int) NN zs (tab NN (unitP D D))) with ⟨Kk, k1, k2, k3⟩ | k
  · have K1 := hid k1
    have K2 := hid k2
    have K3 := hid k3
    clear k1 k2 k3
    have ycm0 : W.drew.cell? ⟨w1.heap.size, 0, none⟩ = some (.int .i64 (D : Int)) := cm0
    have ycm1 : W.drew.cell? ⟨w1.heap.size, 1, none⟩ = some (.int .i64 (D : Int)) := cm1
    have ycm2 : W.drew.cell? ⟨w1.heap.size, 2, none⟩ = some (.slice Bo NN cq) := cm2
    refine wp_region_x (fun w' => w'.cell? ⟨w1.heap.size, 0, none⟩ = some (.int .i64 (D : Int)) ∧ w'.cell? ⟨w1.heap.size, 1, none⟩ = some (.int .i64 (D : Int)) ∧ w'.cell? ⟨w1.heap.size, 2, none⟩ = some (.slice Bo NN cq)) 1000 (by kernel_rfl) ⟨ycm0, ycm1, ycm2⟩ (fun hS0 => ?_)
    refine wpAnyX_take (i := 0) (oi := _) (v := ?_) rfl (by kernel_rfl) (by kernel_rfl) (by kernel_rfl) (by kernel_rfl) (fun _ _ _ h => h) (Or.inl ⟨by rfl, ?_⟩) hS0 ?_
    rotate_left 1
    · (intro w hSw; (try dsimp only at hSw); go_simp; (try with_reducible rfl))
    try simp only [Act.put, List.setIfInBounds_toArray, List.set_cons_zero, List.set_cons_succ]
    refine wpAnyX_take (i := 1) (oi := _) (v := ?_) rfl (by kernel_rfl) (by kernel_rfl) (by kernel_rfl) (by kernel_rfl) (fun _ _ _ h => h) (Or.inl ⟨by rfl, ?_⟩) hS0 ?_
    rotate_left 1
    · (intro w hSw; (try dsimp only at hSw); go_simp; (try with_reducible rfl))
    try simp only [Act.put, List.setIfInBounds_toArray, List.set_cons_zero, List.set_cons_succ]
    refine wpAnyX_take (i := 2) (oi := _) (v := ?_) rfl (by kernel_rfl) (by kernel_rfl) (by kernel_rfl) (by kernel_rfl) (fun _ _ _ h => h) (Or.inl ⟨by rfl, ?_⟩) hS0 ?_
    rotate_left 1
    · (intro w hSw; (try dsimp only at hSw); go_simp; (try with_reducible rfl))
    try simp only [Act.put, List.setIfInBounds_toArray, List.set_cons_zero, List.set_cons_succ]
    refine wpAnyX_one (i := 3) (o := _) rfl (by kernel_rfl) (fun K hK => ?_)
    go_simp
    refine (unit_s (N := D) (n := NN) EQ.out h1 d32 nn5).mono ?_
    rintro ee w2 ⟨rfl, hK2, hb20⟩
    have hb2 := undrewK hb20
    have hz2 := hb2.size
    refine hK.out _ _ (fun _ => ?_) (fun hS1 => ?_)
    · exact ⟨kc hb20 (hS0.1), kc hb20 (hS0.2.1), kc hb20 (hS0.2.2)⟩
    clear hK K
    have hS1 := hS1 (by decide)
    try simp only [Act.put, List.setIfInBounds_toArray, List.set_cons_zero, List.set_cons_succ]
    refine wpAnyX_one (i := 4) (o := _) rfl (by kernel_rfl) (fun K hK => ?_)
    go_simp
    refine (lp (xs := zs) (ys := tab NN (unitP D D)) ((HR1.out.mono hbW).mono hb2) hK2.rd HL.out (tab_len _ _) (by omega) (fun _ _ => rfl) (unit_ok D)).mono ?_
    rintro ee w3 ⟨q1, q2, hb3⟩
    have hz3 := hb3.size
    obtain rfl : ee = .returned (.tuple #[.int .i64 (Kk : Int), .bool true]) := q1 Kk K1.out K2.out K3.out
    refine hK.out _ _ (fun _ => ?_) (fun hS2 => ?_)
    · exact ⟨kc hb3 (hS1.1), kc hb3 (hS1.2.1), kc hb3 (hS1.2.2)⟩
    clear hK K
    have hS2 := hS2 (by decide)
    try simp only [Act.put, List.setIfInBounds_toArray, List.set_cons_zero, List.set_cons_succ]
    refine wpAnyX_take (i := 5) (oi := _) (v := ?_) rfl (by kernel_rfl) (by kernel_rfl) (by kernel_rfl) (by kernel_rfl) (fun _ _ _ h => h) (Or.inl ⟨by rfl, ?_⟩) hS2 ?_
    rotate_left 1
    · (intro w hSw; (try dsimp only at hSw); go_simp; (try with_reducible rfl))
    try simp only [Act.put, List.setIfInBounds_toArray, List.set_cons_zero, List.set_cons_succ]
    refine wpAnyX_take (i := 6) (oi := _) (v := ?_) rfl (by kernel_rfl) (by kernel_rfl) (by kernel_rfl) (by kernel_rfl) (fun _ _ _ h => h) (Or.inl ⟨by rfl, ?_⟩) hS2 ?_
    rotate_left 1
    · (intro w hSw; (try dsimp only at hSw); go_simp; (try with_reducible rfl))
    try simp only [Act.put, List.setIfInBounds_toArray, List.set_cons_zero, List.set_cons_succ]
    refine wpAnyX_take (i := 7) (oi := _) (v := ?_) rfl (by kernel_rfl) (by kernel_rfl) (by kernel_rfl) (by kernel_rfl) (fun _ _ _ h => h) (Or.inl ⟨by rfl, ?_⟩) hS2 ?_
    rotate_left 1
    · (intro w hSw; (try dsimp only at hSw); go_simp; (try with_reducible rfl))
    try simp only [Act.put, List.setIfInBounds_toArray, List.set_cons_zero, List.set_cons_succ]
    refine wpAnyX_take (i := 8) (oi := _) (v := ?_) rfl (by kernel_rfl) (by kernel_rfl) (by kernel_rfl) (by kernel_rfl) (fun _ _ _ h => h) (Or.inl ⟨by rfl, ?_⟩) hS2 ?_
    rotate_left 1
    · (intro w hSw; (try dsimp only at hSw); go_simp; (try with_reducible rfl))
    try simp only [Act.put, List.setIfInBounds_toArray, List.set_cons_zero, List.set_cons_succ]
    refine wpAnyX_take (i := 9) (oi := _) (v := ?_) rfl (by kernel_rfl) (by kernel_rfl) (by kernel_rfl) (by kernel_rfl) (fun _ _ _ h => h) (Or.inl ⟨by rfl, ?_⟩) hS2 ?_
    rotate_left 1
    · (intro w hSw; (try dsimp only at hSw); go_simp; (try with_reducible rfl))
    change wpAnyX _ _ _ _ _ _ _ _ (Act.put _ (some 8) _) _
    try simp only [Act.put, List.setIfInBounds_toArray, List.set_cons_zero, List.set_cons_succ]
    refine wpAnyX_done (by kernel_rfl) ?_ _
    have hB2 : Below w.heap.size w w2 := chain hwW hb2 hwW.size
    have hw3 : Below w.heap.size w w3 := chain hB2 hb3 hB2.size
    clear q1 q2
    go_wp2_with (fail)
    refine bodyPost_ret (v := .tuple #[.int .i64 (Kk : Int), .bool true, .bool true]) (by first | (simp [results, Try.results40, go_sem, *]; done) | (simp (disch := (first | omega | (simp; done) | (simp; omega))) [results, Try.results40, go_sem, *]; done) | (simp only [results, Try.results40]; go_simp; done)) rfl (PH.found K1.out K2.out K3.out rfl hw3)
  · have HH := hid k
    clear k
    have ycm0 : W.drew.cell? ⟨w1.heap.size, 0, none⟩ = some (.int .i64 (D : Int)) := cm0
    have ycm1 : W.drew.cell? ⟨w1.heap.size, 1, none⟩ = some (.int .i64 (D : Int)) := cm1
    have ycm2 : W.drew.cell? ⟨w1.heap.size, 2, none⟩ = some (.slice Bo NN cq) := cm2
    refine wp_region_x (fun w' => w'.cell? ⟨w1.heap.size, 0, none⟩ = some (.int .i64 (D : Int)) ∧ w'.cell? ⟨w1.heap.size, 1, none⟩ = some (.int .i64 (D : Int)) ∧ w'.cell? ⟨w1.heap.size, 2, none⟩ = some (.slice Bo NN cq)) 1000 (by kernel_rfl) ⟨ycm0, ycm1, ycm2⟩ (fun hS0 => ?_)
    refine wpAnyX_take (i := 0) (oi := _) (v := ?_) rfl (by kernel_rfl) (by kernel_rfl) (by kernel_rfl) (by kernel_rfl) (fun _ _ _ h => h) (Or.inl ⟨by rfl, ?_⟩) hS0 ?_
    rotate_left 1
    · (intro w hSw; (try dsimp only at hSw); go_simp; (try with_reducible rfl))
    try simp only [Act.put, List.setIfInBounds_toArray, List.set_cons_zero, List.set_cons_succ]
    refine wpAnyX_take (i := 1) (oi := _) (v := ?_) rfl (by kernel_rfl) (by kernel_rfl) (by kernel_rfl) (by kernel_rfl) (fun _ _ _ h => h) (Or.inl ⟨by rfl, ?_⟩) hS0 ?_
    rotate_left 1
    · (intro w hSw; (try dsimp only at hSw); go_simp; (try with_reducible rfl))
    try simp only [Act.put, List.setIfInBounds_toArray, List.set_cons_zero, List.set_cons_succ]
    refine wpAnyX_take (i := 2) (oi := _) (v := ?_) rfl (by kernel_rfl) (by kernel_rfl) (by kernel_rfl) (by kernel_rfl) (fun _ _ _ h => h) (Or.inl ⟨by rfl, ?_⟩) hS0 ?_
    rotate_left 1
    · (intro w hSw; (try dsimp only at hSw); go_simp; (try with_reducible rfl))
    try simp only [Act.put, List.setIfInBounds_toArray, List.set_cons_zero, List.set_cons_succ]
    refine wpAnyX_one (i := 3) (o := _) rfl (by kernel_rfl) (fun K hK => ?_)
    go_simp
    refine (unit_s (N := D) (n := NN) EQ.out h1 d32 nn5).mono ?_
    rintro ee w2 ⟨rfl, hK2, hb20⟩
    have hb2 := undrewK hb20
    have hz2 := hb2.size
    refine hK.out _ _ (fun _ => ?_) (fun hS1 => ?_)
    · exact ⟨kc hb20 (hS0.1), kc hb20 (hS0.2.1), kc hb20 (hS0.2.2)⟩
    clear hK K
    have hS1 := hS1 (by decide)
    try simp only [Act.put, List.setIfInBounds_toArray, List.set_cons_zero, List.set_cons_succ]
    refine wpAnyX_one (i := 4) (o := _) rfl (by kernel_rfl) (fun K hK => ?_)
    go_simp
    refine (lp (xs := zs) (ys := tab NN (unitP D D)) ((HR1.out.mono hbW).mono hb2) hK2.rd HL.out (tab_len _ _) (by omega) (fun _ _ => rfl) (unit_ok D)).mono ?_
    rintro ee w3 ⟨q1, q2, hb3⟩
    have hz3 := hb3.size
    obtain rfl : ee = .returned (.tuple #[.int .i64 0, .bool false]) := q2 HH.out
    refine hK.out _ _ (fun _ => ?_) (fun hS2 => ?_)
    · exact ⟨kc hb3 (hS1.1), kc hb3 (hS1.2.1), kc hb3 (hS1.2.2)⟩
    clear hK K
    have hS2 := hS2 (by decide)
    try simp only [Act.put, List.setIfInBounds_toArray, List.set_cons_zero, List.set_cons_succ]
    refine wpAnyX_take (i := 5) (oi := _) (v := ?_) rfl (by kernel_rfl) (by kernel_rfl) (by kernel_rfl) (by kernel_rfl) (fun _ _ _ h => h) (Or.inl ⟨by rfl, ?_⟩) hS2 ?_
    rotate_left 1
    · (intro w hSw; (try dsimp only at hSw); go_simp; (try with_reducible rfl))
    try simp only [Act.put, List.setIfInBounds_toArray, List.set_cons_zero, List.set_cons_succ]
    refine wpAnyX_take (i := 6) (oi := _) (v := ?_) rfl (by kernel_rfl) (by kernel_rfl) (by kernel_rfl) (by kernel_rfl) (fun _ _ _ h => h) (Or.inl ⟨by rfl, ?_⟩) hS2 ?_
    rotate_left 1
    · (intro w hSw; (try dsimp only at hSw); go_simp; (try with_reducible rfl))
    try simp only [Act.put, List.setIfInBounds_toArray, List.set_cons_zero, List.set_cons_succ]
    refine wpAnyX_take (i := 7) (oi := _) (v := ?_) rfl (by kernel_rfl) (by kernel_rfl) (by kernel_rfl) (by kernel_rfl) (fun _ _ _ h => h) (Or.inl ⟨by rfl, ?_⟩) hS2 ?_
    rotate_left 1
    · (intro w hSw; (try dsimp only at hSw); go_simp; (try with_reducible rfl))
    try simp only [Act.put, List.setIfInBounds_toArray, List.set_cons_zero, List.set_cons_succ]
    refine wpAnyX_take (i := 8) (oi := _) (v := ?_) rfl (by kernel_rfl) (by kernel_rfl) (by kernel_rfl) (by kernel_rfl) (fun _ _ _ h => h) (Or.inl ⟨by rfl, ?_⟩) hS2 ?_
    rotate_left 1
    · (intro w hSw; (try dsimp only at hSw); go_simp; (try with_reducible rfl))
    try simp only [Act.put, List.setIfInBounds_toArray, List.set_cons_zero, List.set_cons_succ]
    refine wpAnyX_take (i := 9) (oi := _) (v := ?_) rfl (by kernel_rfl) (by kernel_rfl) (by kernel_rfl) (by kernel_rfl) (fun _ _ _ h => h) (Or.inl ⟨by rfl, ?_⟩) hS2 ?_
    rotate_left 1
    · (intro w hSw; (try dsimp only at hSw); go_simp; (try with_reducible rfl))
    change wpAnyX _ _ _ _ _ _ _ _ (Act.put _ (some 8) _) _
    try simp only [Act.put, List.setIfInBounds_toArray, List.set_cons_zero, List.set_cons_succ]
    refine wpAnyX_done (by kernel_rfl) ?_ _
    have hB2 : Below w.heap.size w w2 := chain hwW hb2 hwW.size
    have hw3 : Below w.heap.size w w3 := chain hB2 hb3 hB2.size
    clear q1 q2
    go_wp2_with (fail)
    refine bodyPost_ret (v := .tuple #[.int .i64 0, .bool false, .bool true]) (by first | (simp [results, Try.results40, go_sem, *]; done) | (simp (disch := (first | omega | (simp; done) | (simp; omega))) [results, Try.results40, go_sem, *]; done) | (simp only [results, Try.results40]; go_simp; done)) rfl (PH.none HH.out rfl hw3)

end Go.Proofs.Ytnjckeadcbfogaa
