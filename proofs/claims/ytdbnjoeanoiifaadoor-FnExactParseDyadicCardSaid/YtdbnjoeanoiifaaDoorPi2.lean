/- ParseRing: the program. -/
import Derived.Test.YtdbnjoeanoiifaaDoorPi1
import Derived.Test.YtdbnjoeanoiifaaDoorProd
import Derived.Test.YtdbnjoeanoiifaaDoorLwFmt
import Derived.Lib.AtoiErrMem
namespace Go.Proofs.YtdbnjoeanoiifaaDoor
open Go.RowKit RM
set_option linter.unusedVariables false
set_option linter.unusedSimpArgs false
attribute [local irreducible] World.setCell

theorem bx {x y : ByteArray} (h : x.data = y.data) : x = y := by
  cases x; cases y; cases h; rfl
theorem heap_new_at2 {W : World} {b : Nat} {B : Obj} (h : b = W.heap.size) : (W.alloc B).heap[b]? = some B := by
  subst h
  exact heap_alloc_new W B
/-- the library's two errors -/
def Ers (w : World) : Prop := (∃ te pe, w.cell? ⟨1, 0, none⟩ = some (.iface te pe)) ∧ ∃ te pe, w.cell? ⟨2, 0, none⟩ = some (.iface te pe)
theorem Ers.below {w W : World} (h : Ers w) (hb : Below w.heap.size w W) : Ers W := by
  obtain ⟨⟨t1, p1, h1⟩, t2, p2, h2⟩ := h
  exact ⟨⟨t1, p1, kcl hb h1⟩, t2, p2, kcl hb h2⟩
theorem Ers.set {w : World} (h : Ers w) {g o : Nat} {v : Value} (hg : 3 ≤ g) : Ers (w.setCell ⟨g, o, none⟩ v) := by
  obtain ⟨⟨t1, p1, h1⟩, t2, p2, h2⟩ := h
  exact ⟨⟨t1, p1, kclS1 (by omega) h1⟩, t2, p2, kclS1 (by omega) h2⟩
theorem Ers.lt {w : World} (h : Ers w) : 2 < w.heap.size := by
  obtain ⟨_, t2, p2, h2⟩ := h
  exact World.block_lt_of_cell? _ _ h2
theorem at_ok {x : ByteArray} {v : Int} (hs : x.size ≤ 1048576) (h : Lib.atoiAll x.data.toList = .ok v) (w : World) :
    Calls Tryd.prog 31 #[.string x] w fun e w' => e = .returned (.tuple #[.int .i64 v, .nilIface]) ∧ Below w.heap.size w w' :=
  (Tryd.strconv_Atoi_ok x (by omega) v h w).mono fun e w' ⟨he, hw⟩ => ⟨he, by
    rcases hw with rfl | ⟨t, rfl⟩
    · exact Below.refl _ _
    · exact Lib.bytesWorld_below _ _ _⟩
theorem at_er {x : ByteArray} (hs : x.size ≤ 1048576) (h : ∀ v, Lib.atoiAll x.data.toList ≠ .ok v) {w : World} (hE : Ers w) :
    Calls Tryd.prog 31 #[.string x] w fun e w' => ∃ (n : Int) (t : TypeId) (p : Value), e = .returned (.tuple #[.int .i64 n, .iface t p]) ∧ Below w.heap.size w w' := by
  obtain ⟨⟨t1, p1, h1⟩, t2, p2, h2⟩ := hE
  match ha : Lib.atoiAll x.data.toList with
  | Go.Lib.NumEnd.ok v => exact absurd ha (h v)
  | Go.Lib.NumEnd.syntax => exact (Tryd.strconv_Atoi_syntax x (by omega) ha _ w h1 (Or.inr ⟨_, _, rfl⟩)).mono fun e w' ⟨N, he, _, _, hb⟩ => ⟨_, _, _, he, hb⟩
  | Go.Lib.NumEnd.range => exact (Tryd.strconv_Atoi_range x (by omega) ha _ w h2 (Or.inr ⟨_, _, rfl⟩)).mono fun e w' ⟨N, he, _, _, hb⟩ => ⟨_, _, _, he, hb⟩
set_option maxRecDepth 100000 in
set_option maxHeartbeats 8000000 in
theorem pi_len {s : ByteArray} {N : Nat} {L : List ByteArray} (hs : s.size ≤ 1048576) (hN : (N : Int) = min 5 ((s.size : Int) + 1)) (hL : Lib.splitB spc 0 (N - 1) s = L) (hl : L.length ≠ 4) {w : World} :
    Calls Tryd.prog 11 #[.string s] w fun ee w' => ee = .returned (rt 0 0 0 0 false) ∧ Below w.heap.size w w' := by
  have HL := lay hL
  obtain ⟨n, hn⟩ : ∃ n, L.length = n := ⟨_, rfl⟩
  have HN := lay hn
  rw [hn] at hl
  have hl4 : ¬ ((n : Int) = 4) := by omega
  clear hL hn
  go_enter Tryd.func11, Tryd.ntmps11
  go_wp2_with (fail)
  refine (spn hs N hN HL.out _).mono ?_
  rintro ee w1 ⟨rfl, rfl⟩
  rw [HN.out]
  go_wp2_with (fail)
  refine bodyPost_ret (v := rt 0 0 0 0 false) (by first | (simp [results, Tryd.results11, go_sem, *]; done) | (simp (disch := (first | omega | (simp; done) | (simp; omega))) [results, Tryd.results11, go_sem, *]; done) | (simp only [results, Tryd.results11]; go_simp; done)) rfl ⟨rfl, ?_⟩
  (repeat' (first | (with_reducible exact Below.refl _ _) | (with_reducible assumption) | (with_reducible refine Below.alloc ?_ ?_ _) | (with_reducible refine Below.drew ?_) | (with_reducible refine bdN ?_ _) | (with_reducible refine Below.setCell ?_ ?_ _) | (with_reducible refine chn ?_ (by assumption) ?_) | omega | (simp; done) | (simp; omega)))
set_option maxRecDepth 100000 in
set_option maxHeartbeats 8000000 in
theorem pi_e0 {s : ByteArray} {N : Nat} {w : World} {x0 x1 x2 x3 : ByteArray} (hs : s.size ≤ 1048576) (hN : (N : Int) = min 5 ((s.size : Int) + 1)) (hL : Lib.splitB spc 0 (N - 1) s = [x0, x1, x2, x3]) (z0 : x0.size ≤ 1048576) (z1 : x1.size ≤ 1048576) (z2 : x2.size ≤ 1048576) (z3 : x3.size ≤ 1048576) (a0 : ∀ v, Lib.atoiAll x0.data.toList ≠ .ok v) (hE : Ers w) :
    Calls Tryd.prog 11 #[.string s] w fun ee w' => ee = .returned (rt 0 0 0 0 false) ∧ Below w.heap.size w w' := by
  have HL := lay hL
  have HE := lay hE
  have h2w := hE.lt
  have h0 := lay a0
  clear hL hE a0
  go_enter Tryd.func11, Tryd.ntmps11
  go_wp2_with (fail)
  refine (spn hs N hN HL.out _).mono ?_
  rintro ee w1 ⟨rfl, hw1⟩
  have hsz : w1.heap.size = w.heap.size + 1 + 1 + 1 := by rw [hw1]; simp
  have X0 : Bb w1 w.heap.size 25 #[.int .i64 0, .int .i64 0, .int .i64 0, .int .i64 0] := by rw [hw1]; exact ((Bb.new rfl).alloc _).alloc _
  have Y0 : Bb w1 (w.heap.size + 1) 53 #[.int .i64 0, .int .i64 0, .int .i64 0, .int .i64 0] := by rw [hw1]; exact (Bb.new (by simp)).alloc _
  have S0 : ∀ j x, [x0, x1, x2, x3][j]? = some x → w1.cell? ⟨w.heap.size + 1 + 1, j, none⟩ = some (.string x) := fun j x h => by
    rw [hw1]
    have h2 := cell_of_row ((w.alloc (.cells #[.int .i64 0, .int .i64 0, .int .i64 0, .int .i64 0] 25)).alloc (.cells #[.int .i64 0, .int .i64 0, .int .i64 0, .int .i64 0] 53) |>.alloc (.cells (Lib.cellsOf [x0, x1, x2, x3] N) 9)) (w.heap.size + 1 + 1) j (Lib.cellsOf [x0, x1, x2, x3] N) 9 (0, 0) (heap_new_at2 (by simp))
    rw [h2]
    exact cells_at h
  have B1 : Below w.heap.size w w1 := by
    rw [hw1]
    exact (((Below.refl _ _).alloc (Nat.le_refl _) _).alloc (by simp) _).alloc (by simp; omega) _
  have HE1 := lay (HE.out.below B1)
  have HB1 := lay B1
  have HX := lay X0
  have HY := lay Y0
  have HSs := lay S0
  have hz1 : w.heap.size + 1 + 1 < w1.heap.size := by omega
  have e0 : [x0, x1, x2, x3].length = 4 := rfl
  rw [e0]
  clear hw1 X0 Y0 S0 B1 HE HL hN hsz
  go_wp2_with (fail)
  refine wp_loop_rounds 5 ?_
  rw [rounds_succ]
  have c0 := HSs.out 0 x0 rfl
  have xl := HX.out.lt
  have yl := HY.out.lt
  go_wp2_with (fail)
  refine (at_er z0 h0.out HE1.out).mono ?_
  rintro ee w2 ⟨n9, t9, p9, rfl, hb⟩
  have hq := hb.size
  replace HX := lay (HX.out.mono hb)
  replace HY := lay (HY.out.mono hb)
  replace HSs : Hid (∀ j x, [x0, x1, x2, x3][j]? = some x → w2.cell? ⟨w.heap.size + 1 + 1, j, none⟩ = some (.string x)) := lay (fun j x h => kcl hb (HSs.out j x h))
  replace HE1 := lay (HE1.out.below hb)
  replace HB1 := lay (chn HB1.out hb HB1.out.size)
  clear hb c0 xl yl
  have r0 := HX.out.c 0 rfl
  have r1 := HX.out.c 1 rfl
  have r2 := HX.out.c 2 rfl
  have r3 := HX.out.c 3 rfl
  have rf := HX.out.f
  have rl := HX.out.lt
  go_wp2_with (fail)
  refine bodyPost_ret (v := rt 0 0 0 0 false) (by first | (simp [results, Tryd.results11, go_sem, *]; done) | (simp (disch := (first | omega | (simp; done) | (simp; omega))) [results, Tryd.results11, go_sem, *]; done) | (simp only [results, Tryd.results11]; go_simp; done)) rfl ⟨rfl, ?_⟩
  have HBo := HB1.out
  (repeat' (first | (with_reducible exact Below.refl _ _) | (with_reducible assumption) | (with_reducible refine Below.alloc ?_ ?_ _) | (with_reducible refine Below.drew ?_) | (with_reducible refine bdN ?_ _) | (with_reducible refine Below.setCell ?_ ?_ _) | (with_reducible refine chn ?_ (by assumption) ?_) | omega | (simp; done) | (simp; omega)))
set_option maxRecDepth 100000 in
set_option maxHeartbeats 8000000 in
theorem pi_e1 {s : ByteArray} {N : Nat} {w : World} {x0 x1 x2 x3 : ByteArray} (hs : s.size ≤ 1048576) (hN : (N : Int) = min 5 ((s.size : Int) + 1)) (hL : Lib.splitB spc 0 (N - 1) s = [x0, x1, x2, x3]) (z0 : x0.size ≤ 1048576) (z1 : x1.size ≤ 1048576) (z2 : x2.size ≤ 1048576) (z3 : x3.size ≤ 1048576) {v0 : Int} (a0 : Lib.atoiAll x0.data.toList = .ok v0) (a1 : ∀ v, Lib.atoiAll x1.data.toList ≠ .ok v) (hE : Ers w) :
    Calls Tryd.prog 11 #[.string s] w fun ee w' => ee = .returned (rt 0 0 0 0 false) ∧ Below w.heap.size w w' := by
  have HL := lay hL
  have HE := lay hE
  have h2w := hE.lt
  have h0 := lay a0
  have h1 := lay a1
  clear hL hE a0 a1
  go_enter Tryd.func11, Tryd.ntmps11
  go_wp2_with (fail)
  refine (spn hs N hN HL.out _).mono ?_
  rintro ee w1 ⟨rfl, hw1⟩
  have hsz : w1.heap.size = w.heap.size + 1 + 1 + 1 := by rw [hw1]; simp
  have X0 : Bb w1 w.heap.size 25 #[.int .i64 0, .int .i64 0, .int .i64 0, .int .i64 0] := by rw [hw1]; exact ((Bb.new rfl).alloc _).alloc _
  have Y0 : Bb w1 (w.heap.size + 1) 53 #[.int .i64 0, .int .i64 0, .int .i64 0, .int .i64 0] := by rw [hw1]; exact (Bb.new (by simp)).alloc _
  have S0 : ∀ j x, [x0, x1, x2, x3][j]? = some x → w1.cell? ⟨w.heap.size + 1 + 1, j, none⟩ = some (.string x) := fun j x h => by
    rw [hw1]
    have h2 := cell_of_row ((w.alloc (.cells #[.int .i64 0, .int .i64 0, .int .i64 0, .int .i64 0] 25)).alloc (.cells #[.int .i64 0, .int .i64 0, .int .i64 0, .int .i64 0] 53) |>.alloc (.cells (Lib.cellsOf [x0, x1, x2, x3] N) 9)) (w.heap.size + 1 + 1) j (Lib.cellsOf [x0, x1, x2, x3] N) 9 (0, 0) (heap_new_at2 (by simp))
    rw [h2]
    exact cells_at h
  have B1 : Below w.heap.size w w1 := by
    rw [hw1]
    exact (((Below.refl _ _).alloc (Nat.le_refl _) _).alloc (by simp) _).alloc (by simp; omega) _
  have HE1 := lay (HE.out.below B1)
  have HB1 := lay B1
  have HX := lay X0
  have HY := lay Y0
  have HSs := lay S0
  have hz1 : w.heap.size + 1 + 1 < w1.heap.size := by omega
  have e0 : [x0, x1, x2, x3].length = 4 := rfl
  rw [e0]
  clear hw1 X0 Y0 S0 B1 HE HL hN hsz
  go_wp2_with (fail)
  refine wp_loop_rounds 5 ?_
  rw [rounds_succ]
  have c0 := HSs.out 0 x0 rfl
  have xl := HX.out.lt
  have yl := HY.out.lt
  go_wp2_with (fail)
  refine (at_ok z0 h0.out _).mono ?_
  rintro ee w2 ⟨rfl, hb⟩
  have hq := hb.size
  replace HX := lay (HX.out.mono hb)
  replace HY := lay (HY.out.mono hb)
  replace HSs : Hid (∀ j x, [x0, x1, x2, x3][j]? = some x → w2.cell? ⟨w.heap.size + 1 + 1, j, none⟩ = some (.string x)) := lay (fun j x h => kcl hb (HSs.out j x h))
  replace HE1 := lay (HE1.out.below hb)
  replace HB1 := lay (chn HB1.out hb HB1.out.size)
  clear hb c0 xl yl
  have y0 := HY.out.c 0 rfl
  have y1 := HY.out.c 1 rfl
  have y2 := HY.out.c 2 rfl
  have y3 := HY.out.c 3 rfl
  have yf := HY.out.f
  have yl := HY.out.lt
  go_wp2_with (fail)
  obtain ⟨u2, hu2⟩ : ∃ W, W = w2.setCell ⟨w.heap.size + 1, 0, none⟩ (.int .i64 v0) := ⟨_, rfl⟩
  rw [← hu2]
  replace HX : Hid (Bb u2 w.heap.size 25 #[.int .i64 0, .int .i64 0, .int .i64 0, .int .i64 0]) := by show Bb _ _ _ _; rw [hu2]; exact HX.out.far (by omega)
  replace HY : Hid (Bb u2 (w.heap.size + 1) 53 #[.int .i64 v0, .int .i64 0, .int .i64 0, .int .i64 0]) := by show Bb _ _ _ _; rw [hu2]; exact HY.out.set rfl
  replace HSs : Hid (∀ j x, [x0, x1, x2, x3][j]? = some x → u2.cell? ⟨w.heap.size + 1 + 1, j, none⟩ = some (.string x)) := lay (fun j x h => by rw [hu2]; exact kclS1 (by omega) (HSs.out j x h))
  replace HE1 : Hid (Ers u2) := by show Ers _; rw [hu2]; exact HE1.out.set (by omega)
  replace HB1 : Hid (Below w.heap.size w u2) := by show Below _ _ _; rw [hu2]; exact HB1.out.setCell (by show w.heap.size ≤ w.heap.size + 1; omega) _
  have hq2 : u2.heap.size = w2.heap.size := by rw [hu2]; simp
  clear hu2 y0 y1 y2 y3 yf yl
  rw [rounds_succ]
  have c1 := HSs.out 1 x1 rfl
  have xl := HX.out.lt
  have yl := HY.out.lt
  go_wp2_with (fail)
  refine (at_er z1 h1.out HE1.out).mono ?_
  rintro ee w3 ⟨n9, t9, p9, rfl, hb⟩
  have hq := hb.size
  replace HX := lay (HX.out.mono hb)
  replace HY := lay (HY.out.mono hb)
  replace HSs : Hid (∀ j x, [x0, x1, x2, x3][j]? = some x → w3.cell? ⟨w.heap.size + 1 + 1, j, none⟩ = some (.string x)) := lay (fun j x h => kcl hb (HSs.out j x h))
  replace HE1 := lay (HE1.out.below hb)
  replace HB1 := lay (chn HB1.out hb HB1.out.size)
  clear hb c1 xl yl
  have r0 := HX.out.c 0 rfl
  have r1 := HX.out.c 1 rfl
  have r2 := HX.out.c 2 rfl
  have r3 := HX.out.c 3 rfl
  have rf := HX.out.f
  have rl := HX.out.lt
  go_wp2_with (fail)
  refine bodyPost_ret (v := rt 0 0 0 0 false) (by first | (simp [results, Tryd.results11, go_sem, *]; done) | (simp (disch := (first | omega | (simp; done) | (simp; omega))) [results, Tryd.results11, go_sem, *]; done) | (simp only [results, Tryd.results11]; go_simp; done)) rfl ⟨rfl, ?_⟩
  have HBo := HB1.out
  (repeat' (first | (with_reducible exact Below.refl _ _) | (with_reducible assumption) | (with_reducible refine Below.alloc ?_ ?_ _) | (with_reducible refine Below.drew ?_) | (with_reducible refine bdN ?_ _) | (with_reducible refine Below.setCell ?_ ?_ _) | (with_reducible refine chn ?_ (by assumption) ?_) | omega | (simp; done) | (simp; omega)))
end Go.Proofs.YtdbnjoeanoiifaaDoor
