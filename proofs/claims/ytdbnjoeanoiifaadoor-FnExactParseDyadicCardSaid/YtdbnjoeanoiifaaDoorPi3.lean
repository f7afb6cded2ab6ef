/- ParseRing: the program, a late word that is no number. -/
import Derived.Test.YtdbnjoeanoiifaaDoorPi2
namespace Go.Proofs.YtdbnjoeanoiifaaDoor
open Go.RowKit RM
set_option linter.unusedVariables false
set_option linter.unusedSimpArgs false
attribute [local irreducible] World.setCell

set_option maxRecDepth 100000 in
set_option maxHeartbeats 8000000 in
theorem pi_e2 {s : ByteArray} {N : Nat} {w : World} {x0 x1 x2 x3 : ByteArray} (hs : s.size ≤ 1048576) (hN : (N : Int) = min 5 ((s.size : Int) + 1)) (hL : Lib.splitB spc 0 (N - 1) s = [x0, x1, x2, x3]) (z0 : x0.size ≤ 1048576) (z1 : x1.size ≤ 1048576) (z2 : x2.size ≤ 1048576) (z3 : x3.size ≤ 1048576) {v0 : Int} (a0 : Lib.atoiAll x0.data.toList = .ok v0) {v1 : Int} (a1 : Lib.atoiAll x1.data.toList = .ok v1) (a2 : ∀ v, Lib.atoiAll x2.data.toList ≠ .ok v) (hE : Ers w) :
    Calls Tryd.prog 11 #[.string s] w fun ee w' => ee = .returned (rt 0 0 0 0 false) ∧ Below w.heap.size w w' := by
  have HL := lay hL
  have HE := lay hE
  have h2w := hE.lt
  have h0 := lay a0
  have h1 := lay a1
  have h2 := lay a2
  clear hL hE a0 a1 a2
  go_enter Tryd.func11, Tryd.ntmps11
  go_wp2_with (fail)
  refine (spn hs N hN HL.out _).mono ?_
  rintro ee w1 ⟨rfl, hw1⟩
  have hsz : w1.heap.size = w.heap.size + 1 + 1 + 1 := by rw [hw1]; simp
  have X0 : Bb w1 w.heap.size 25 #[.int .i64 0, .int .i64 0, .int .i64 0, .int .i64 0] := by rw [hw1]; exact ((Bb.new rfl).alloc _).alloc _
  have Y0 : Bb w1 (w.heap.size + 1) 53 #[.int .i64 0, .int .i64 0, .int .i64 0, .int .i64 0] := by rw [hw1]; exact (Bb.new (by simp)).alloc _
  have S0 : ∀ j x, [x0, x1, x2, x3][j]? = some x → w1.cell? ⟨w.heap.size + 1 + 1, j, none⟩ = some (.string x) := fun j x h => by
    rw [hw1]
    have h2 := cell_of_row ((w.alloc (.cells #[.int .i64 0, .int .i64 0, .int .i64 0, .int .i64 0] 25)).alloc (.cells #[.int .i64 0, .int .i64 0, .int .i64 0, .int .i64 0] 53) |>.alloc (.cells (Lib.cellsOf [x0, x1, x2, x3] N) 9)) (w.heap.size + 1 + 1) j (Lib.cellsOf [x0, x1, x2, x3] N) 9 (0, 0) (heap_new_at2 (by simp))
    rw [h2]
    exact cells_at h
  have B1 : Below w.heap.size w w1 := by
    rw [hw1]
    exact (((Below.refl _ _).alloc (Nat.le_refl _) _).alloc (by simp) _).alloc (by simp; omega) _
  have HE1 := lay (HE.out.below B1)
  have HB1 := lay B1
  have HX := lay X0
  have HY := lay Y0
  have HSs := lay S0
  have hz1 : w.heap.size + 1 + 1 < w1.heap.size := by omega
  have e0 : [x0, x1, x2, x3].length = 4 := rfl
  rw [e0]
  clear hw1 X0 Y0 S0 B1 HE HL hN hsz
  go_wp2_with (fail)
  refine wp_loop_rounds 5 ?_
  rw [rounds_succ]
  have c0 := HSs.out 0 x0 rfl
  have xl := HX.out.lt
  have yl := HY.out.lt
  go_wp2_with (fail)
  refine (at_ok z0 h0.out _).mono ?_
  rintro ee w2 ⟨rfl, hb⟩
  have hq := hb.size
  replace HX := lay (HX.out.mono hb)
  replace HY := lay (HY.out.mono hb)
  replace HSs : Hid (∀ j x, [x0, x1, x2, x3][j]? = some x → w2.cell? ⟨w.heap.size + 1 + 1, j, none⟩ = some (.string x)) := lay (fun j x h => kcl hb (HSs.out j x h))
  replace HE1 := lay (HE1.out.below hb)
  replace HB1 := lay (chn HB1.out hb HB1.out.size)
  clear hb c0 xl yl
  have y0 := HY.out.c 0 rfl
  have y1 := HY.out.c 1 rfl
  have y2 := HY.out.c 2 rfl
  have y3 := HY.out.c 3 rfl
  have yf := HY.out.f
  have yl := HY.out.lt
  go_wp2_with (fail)
  obtain ⟨u2, hu2⟩ : ∃ W, W = w2.setCell ⟨w.heap.size + 1, 0, none⟩ (.int .i64 v0) := ⟨_, rfl⟩
  rw [← hu2]
  replace HX : Hid (Bb u2 w.heap.size 25 #[.int .i64 0, .int .i64 0, .int .i64 0, .int .i64 0]) := by show Bb _ _ _ _; rw [hu2]; exact HX.out.far (by omega)
  replace HY : Hid (Bb u2 (w.heap.size + 1) 53 #[.int .i64 v0, .int .i64 0, .int .i64 0, .int .i64 0]) := by show Bb _ _ _ _; rw [hu2]; exact HY.out.set rfl
  replace HSs : Hid (∀ j x, [x0, x1, x2, x3][j]? = some x → u2.cell? ⟨w.heap.size + 1 + 1, j, none⟩ = some (.string x)) := lay (fun j x h => by rw [hu2]; exact kclS1 (by omega) (HSs.out j x h))
  replace HE1 : Hid (Ers u2) := by show Ers _; rw [hu2]; exact HE1.out.set (by omega)
  replace HB1 : Hid (Below w.heap.size w u2) := by show Below _ _ _; rw [hu2]; exact HB1.out.setCell (by show w.heap.size ≤ w.heap.size + 1; omega) _
  have hq2 : u2.heap.size = w2.heap.size := by rw [hu2]; simp
  clear hu2 y0 y1 y2 y3 yf yl
  rw [rounds_succ]
  have c1 := HSs.out 1 x1 rfl
  have xl := HX.out.lt
  have yl := HY.out.lt
  go_wp2_with (fail)
  refine (at_ok z1 h1.out _).mono ?_
  rintro ee w3 ⟨rfl, hb⟩
  have hq := hb.size
  replace HX := lay (HX.out.mono hb)
  replace HY := lay (HY.out.mono hb)
  replace HSs : Hid (∀ j x, [x0, x1, x2, x3][j]? = some x → w3.cell? ⟨w.heap.size + 1 + 1, j, none⟩ = some (.string x)) := lay (fun j x h => kcl hb (HSs.out j x h))
  replace HE1 := lay (HE1.out.below hb)
  replace HB1 := lay (chn HB1.out hb HB1.out.size)
  clear hb c1 xl yl
  have y0 := HY.out.c 0 rfl
  have y1 := HY.out.c 1 rfl
  have y2 := HY.out.c 2 rfl
  have y3 := HY.out.c 3 rfl
  have yf := HY.out.f
  have yl := HY.out.lt
  go_wp2_with (fail)
  obtain ⟨u3, hu3⟩ : ∃ W, W = w3.setCell ⟨w.heap.size + 1, 1, none⟩ (.int .i64 v1) := ⟨_, rfl⟩
  rw [← hu3]
  replace HX : Hid (Bb u3 w.heap.size 25 #[.int .i64 0, .int .i64 0, .int .i64 0, .int .i64 0]) := by show Bb _ _ _ _; rw [hu3]; exact HX.out.far (by omega)
  replace HY : Hid (Bb u3 (w.heap.size + 1) 53 #[.int .i64 v0, .int .i64 v1, .int .i64 0, .int .i64 0]) := by show Bb _ _ _ _; rw [hu3]; exact HY.out.set rfl
  replace HSs : Hid (∀ j x, [x0, x1, x2, x3][j]? = some x → u3.cell? ⟨w.heap.size + 1 + 1, j, none⟩ = some (.string x)) := lay (fun j x h => by rw [hu3]; exact kclS1 (by omega) (HSs.out j x h))
  replace HE1 : Hid (Ers u3) := by show Ers _; rw [hu3]; exact HE1.out.set (by omega)
  replace HB1 : Hid (Below w.heap.size w u3) := by show Below _ _ _; rw [hu3]; exact HB1.out.setCell (by show w.heap.size ≤ w.heap.size + 1; omega) _
  have hq3 : u3.heap.size = w3.heap.size := by rw [hu3]; simp
  clear hu3 y0 y1 y2 y3 yf yl
  rw [rounds_succ]
  have c2 := HSs.out 2 x2 rfl
  have xl := HX.out.lt
  have yl := HY.out.lt
  go_wp2_with (fail)
  refine (at_er z2 h2.out HE1.out).mono ?_
  rintro ee w4 ⟨n9, t9, p9, rfl, hb⟩
  have hq := hb.size
  replace HX := lay (HX.out.mono hb)
  replace HY := lay (HY.out.mono hb)
  replace HSs : Hid (∀ j x, [x0, x1, x2, x3][j]? = some x → w4.cell? ⟨w.heap.size + 1 + 1, j, none⟩ = some (.string x)) := lay (fun j x h => kcl hb (HSs.out j x h))
  replace HE1 := lay (HE1.out.below hb)
  replace HB1 := lay (chn HB1.out hb HB1.out.size)
  clear hb c2 xl yl
  have r0 := HX.out.c 0 rfl
  have r1 := HX.out.c 1 rfl
  have r2 := HX.out.c 2 rfl
  have r3 := HX.out.c 3 rfl
  have rf := HX.out.f
  have rl := HX.out.lt
  go_wp2_with (fail)
  refine bodyPost_ret (v := rt 0 0 0 0 false) (by first | (simp [results, Tryd.results11, go_sem, *]; done) | (simp (disch := (first | omega | (simp; done) | (simp; omega))) [results, Tryd.results11, go_sem, *]; done) | (simp only [results, Tryd.results11]; go_simp; done)) rfl ⟨rfl, ?_⟩
  have HBo := HB1.out
  (repeat' (first | (with_reducible exact Below.refl _ _) | (with_reducible assumption) | (with_reducible refine Below.alloc ?_ ?_ _) | (with_reducible refine Below.drew ?_) | (with_reducible refine bdN ?_ _) | (with_reducible refine Below.setCell ?_ ?_ _) | (with_reducible refine chn ?_ (by assumption) ?_) | omega | (simp; done) | (simp; omega)))
set_option maxRecDepth 100000 in
set_option maxHeartbeats 8000000 in
theorem pi_e3 {s : ByteArray} {N : Nat} {w : World} {x0 x1 x2 x3 : ByteArray} (hs : s.size ≤ 1048576) (hN : (N : Int) = min 5 ((s.size : Int) + 1)) (hL : Lib.splitB spc 0 (N - 1) s = [x0, x1, x2, x3]) (z0 : x0.size ≤ 1048576) (z1 : x1.size ≤ 1048576) (z2 : x2.size ≤ 1048576) (z3 : x3.size ≤ 1048576) {v0 : Int} (a0 : Lib.atoiAll x0.data.toList = .ok v0) {v1 : Int} (a1 : Lib.atoiAll x1.data.toList = .ok v1) {v2 : Int} (a2 : Lib.atoiAll x2.data.toList = .ok v2) (a3 : ∀ v, Lib.atoiAll x3.data.toList ≠ .ok v) (hE : Ers w) :
    Calls Tryd.prog 11 #[.string s] w fun ee w' => ee = .returned (rt 0 0 0 0 false) ∧ Below w.heap.size w w' := by
  have HL := lay hL
  have HE := lay hE
  have h2w := hE.lt
  have h0 := lay a0
  have h1 := lay a1
  have h2 := lay a2
  have h3 := lay a3
  clear hL hE a0 a1 a2 a3
  go_enter Tryd.func11, Tryd.ntmps11
  go_wp2_with (fail)
  refine (spn hs N hN HL.out _).mono ?_
  rintro ee w1 ⟨rfl, hw1⟩
  have hsz : w1.heap.size = w.heap.size + 1 + 1 + 1 := by rw [hw1]; simp
  have X0 : Bb w1 w.heap.size 25 #[.int .i64 0, .int .i64 0, .int .i64 0, .int .i64 0] := by rw [hw1]; exact ((Bb.new rfl).alloc _).alloc _
  have Y0 : Bb w1 (w.heap.size + 1) 53 #[.int .i64 0, .int .i64 0, .int .i64 0, .int .i64 0] := by rw [hw1]; exact (Bb.new (by simp)).alloc _
  have S0 : ∀ j x, [x0, x1, x2, x3][j]? = some x → w1.cell? ⟨w.heap.size + 1 + 1, j, none⟩ = some (.string x) := fun j x h => by
    rw [hw1]
    have h2 := cell_of_row ((w.alloc (.cells #[.int .i64 0, .int .i64 0, .int .i64 0, .int .i64 0] 25)).alloc (.cells #[.int .i64 0, .int .i64 0, .int .i64 0, .int .i64 0] 53) |>.alloc (.cells (Lib.cellsOf [x0, x1, x2, x3] N) 9)) (w.heap.size + 1 + 1) j (Lib.cellsOf [x0, x1, x2, x3] N) 9 (0, 0) (heap_new_at2 (by simp))
    rw [h2]
    exact cells_at h
  have B1 : Below w.heap.size w w1 := by
    rw [hw1]
    exact (((Below.refl _ _).alloc (Nat.le_refl _) _).alloc (by simp) _).alloc (by simp; omega) _
  have HE1 := lay (HE.out.below B1)
  have HB1 := lay B1
  have HX := lay X0
  have HY := lay Y0
  have HSs := lay S0
  have hz1 : w.heap.size + 1 + 1 < w1.heap.size := by omega
  have e0 : [x0, x1, x2, x3].length = 4 := rfl
  rw [e0]
  clear hw1 X0 Y0 S0 B1 HE HL hN hsz
  go_wp2_with (fail)
  refine wp_loop_rounds 5 ?_
  rw [rounds_succ]
  have c0 := HSs.out 0 x0 rfl
  have xl := HX.out.lt
  have yl := HY.out.lt
  go_wp2_with (fail)
  refine (at_ok z0 h0.out _).mono ?_
  rintro ee w2 ⟨rfl, hb⟩
  have hq := hb.size
  replace HX := lay (HX.out.mono hb)
  replace HY := lay (HY.out.mono hb)
  replace HSs : Hid (∀ j x, [x0, x1, x2, x3][j]? = some x → w2.cell? ⟨w.heap.size + 1 + 1, j, none⟩ = some (.string x)) := lay (fun j x h => kcl hb (HSs.out j x h))
  replace HE1 := lay (HE1.out.below hb)
  replace HB1 := lay (chn HB1.out hb HB1.out.size)
  clear hb c0 xl yl
  have y0 := HY.out.c 0 rfl
  have y1 := HY.out.c 1 rfl
  have y2 := HY.out.c 2 rfl
  have y3 := HY.out.c 3 rfl
  have yf := HY.out.f
  have yl := HY.out.lt
  go_wp2_with (fail)
  obtain ⟨u2, hu2⟩ : ∃ W, W = w2.setCell ⟨w.heap.size + 1, 0, none⟩ (.int .i64 v0) := ⟨_, rfl⟩
  rw [← hu2]
  replace HX : Hid (Bb u2 w.heap.size 25 #[.int .i64 0, .int .i64 0, .int .i64 0, .int .i64 0]) := by show Bb _ _ _ _; rw [hu2]; exact HX.out.far (by omega)
  replace HY : Hid (Bb u2 (w.heap.size + 1) 53 #[.int .i64 v0, .int .i64 0, .int .i64 0, .int .i64 0]) := by show Bb _ _ _ _; rw [hu2]; exact HY.out.set rfl
  replace HSs : Hid (∀ j x, [x0, x1, x2, x3][j]? = some x → u2.cell? ⟨w.heap.size + 1 + 1, j, none⟩ = some (.string x)) := lay (fun j x h => by rw [hu2]; exact kclS1 (by omega) (HSs.out j x h))
  replace HE1 : Hid (Ers u2) := by show Ers _; rw [hu2]; exact HE1.out.set (by omega)
  replace HB1 : Hid (Below w.heap.size w u2) := by show Below _ _ _; rw [hu2]; exact HB1.out.setCell (by show w.heap.size ≤ w.heap.size + 1; omega) _
  have hq2 : u2.heap.size = w2.heap.size := by rw [hu2]; simp
  clear hu2 y0 y1 y2 y3 yf yl
  rw [rounds_succ]
  have c1 := HSs.out 1 x1 rfl
  have xl := HX.out.lt
  have yl := HY.out.lt
  go_wp2_with (fail)
  refine (at_ok z1 h1.out _).mono ?_
  rintro ee w3 ⟨rfl, hb⟩
  have hq := hb.size
  replace HX := lay (HX.out.mono hb)
  replace HY := lay (HY.out.mono hb)
  replace HSs : Hid (∀ j x, [x0, x1, x2, x3][j]? = some x → w3.cell? ⟨w.heap.size + 1 + 1, j, none⟩ = some (.string x)) := lay (fun j x h => kcl hb (HSs.out j x h))
  replace HE1 := lay (HE1.out.below hb)
  replace HB1 := lay (chn HB1.out hb HB1.out.size)
  clear hb c1 xl yl
  have y0 := HY.out.c 0 rfl
  have y1 := HY.out.c 1 rfl
  have y2 := HY.out.c 2 rfl
  have y3 := HY.out.c 3 rfl
  have yf := HY.out.f
  have yl := HY.out.lt
  go_wp2_with (fail)
  obtain ⟨u3, hu3⟩ : ∃ W, W = w3.setCell ⟨w.heap.size + 1, 1, none⟩ (.int .i64 v1) := ⟨_, rfl⟩
  rw [← hu3]
  replace HX : Hid (Bb u3 w.heap.size 25 #[.int .i64 0, .int .i64 0, .int .i64 0, .int .i64 0]) := by show Bb _ _ _ _; rw [hu3]; exact HX.out.far (by omega)
  replace HY : Hid (Bb u3 (w.heap.size + 1) 53 #[.int .i64 v0, .int .i64 v1, .int .i64 0, .int .i64 0]) := by show Bb _ _ _ _; rw [hu3]; exact HY.out.set rfl
  replace HSs : Hid (∀ j x, [x0, x1, x2, x3][j]? = some x → u3.cell? ⟨w.heap.size + 1 + 1, j, none⟩ = some (.string x)) := lay (fun j x h => by rw [hu3]; exact kclS1 (by omega) (HSs.out j x h))
  replace HE1 : Hid (Ers u3) := by show Ers _; rw [hu3]; exact HE1.out.set (by omega)
  replace HB1 : Hid (Below w.heap.size w u3) := by show Below _ _ _; rw [hu3]; exact HB1.out.setCell (by show w.heap.size ≤ w.heap.size + 1; omega) _
  have hq3 : u3.heap.size = w3.heap.size := by rw [hu3]; simp
  clear hu3 y0 y1 y2 y3 yf yl
  rw [rounds_succ]
  have c2 := HSs.out 2 x2 rfl
  have xl := HX.out.lt
  have yl := HY.out.lt
  go_wp2_with (fail)
  refine (at_ok z2 h2.out _).mono ?_
  rintro ee w4 ⟨rfl, hb⟩
  have hq := hb.size
  replace HX := lay (HX.out.mono hb)
  replace HY := lay (HY.out.mono hb)
  replace HSs : Hid (∀ j x, [x0, x1, x2, x3][j]? = some x → w4.cell? ⟨w.heap.size + 1 + 1, j, none⟩ = some (.string x)) := lay (fun j x h => kcl hb (HSs.out j x h))
  replace HE1 := lay (HE1.out.below hb)
  replace HB1 := lay (chn HB1.out hb HB1.out.size)
  clear hb c2 xl yl
  have y0 := HY.out.c 0 rfl
  have y1 := HY.out.c 1 rfl
  have y2 := HY.out.c 2 rfl
  have y3 := HY.out.c 3 rfl
  have yf := HY.out.f
  have yl := HY.out.lt
  go_wp2_with (fail)
  obtain ⟨u4, hu4⟩ : ∃ W, W = w4.setCell ⟨w.heap.size + 1, 2, none⟩ (.int .i64 v2) := ⟨_, rfl⟩
  rw [← hu4]
  replace HX : Hid (Bb u4 w.heap.size 25 #[.int .i64 0, .int .i64 0, .int .i64 0, .int .i64 0]) := by show Bb _ _ _ _; rw [hu4]; exact HX.out.far (by omega)
  replace HY : Hid (Bb u4 (w.heap.size + 1) 53 #[.int .i64 v0, .int .i64 v1, .int .i64 v2, .int .i64 0]) := by show Bb _ _ _ _; rw [hu4]; exact HY.out.set rfl
  replace HSs : Hid (∀ j x, [x0, x1, x2, x3][j]? = some x → u4.cell? ⟨w.heap.size + 1 + 1, j, none⟩ = some (.string x)) := lay (fun j x h => by rw [hu4]; exact kclS1 (by omega) (HSs.out j x h))
  replace HE1 : Hid (Ers u4) := by show Ers _; rw [hu4]; exact HE1.out.set (by omega)
  replace HB1 : Hid (Below w.heap.size w u4) := by show Below _ _ _; rw [hu4]; exact HB1.out.setCell (by show w.heap.size ≤ w.heap.size + 1; omega) _
  have hq4 : u4.heap.size = w4.heap.size := by rw [hu4]; simp
  clear hu4 y0 y1 y2 y3 yf yl
  rw [rounds_succ]
  have c3 := HSs.out 3 x3 rfl
  have xl := HX.out.lt
  have yl := HY.out.lt
  go_wp2_with (fail)
  refine (at_er z3 h3.out HE1.out).mono ?_
  rintro ee w5 ⟨n9, t9, p9, rfl, hb⟩
  have hq := hb.size
  replace HX := lay (HX.out.mono hb)
  replace HY := lay (HY.out.mono hb)
  replace HSs : Hid (∀ j x, [x0, x1, x2, x3][j]? = some x → w5.cell? ⟨w.heap.size + 1 + 1, j, none⟩ = some (.string x)) := lay (fun j x h => kcl hb (HSs.out j x h))
  replace HE1 := lay (HE1.out.below hb)
  replace HB1 := lay (chn HB1.out hb HB1.out.size)
  clear hb c3 xl yl
  have r0 := HX.out.c 0 rfl
  have r1 := HX.out.c 1 rfl
  have r2 := HX.out.c 2 rfl
  have r3 := HX.out.c 3 rfl
  have rf := HX.out.f
  have rl := HX.out.lt
  go_wp2_with (fail)
  refine bodyPost_ret (v := rt 0 0 0 0 false) (by first | (simp [results, Tryd.results11, go_sem, *]; done) | (simp (disch := (first | omega | (simp; done) | (simp; omega))) [results, Tryd.results11, go_sem, *]; done) | (simp only [results, Tryd.results11]; go_simp; done)) rfl ⟨rfl, ?_⟩
  have HBo := HB1.out
  (repeat' (first | (with_reducible exact Below.refl _ _) | (with_reducible assumption) | (with_reducible refine Below.alloc ?_ ?_ _) | (with_reducible refine Below.drew ?_) | (with_reducible refine bdN ?_ _) | (with_reducible refine Below.setCell ?_ ?_ _) | (with_reducible refine chn ?_ (by assumption) ?_) | omega | (simp; done) | (simp; omega)))
end Go.Proofs.YtdbnjoeanoiifaaDoor
