/- MulSx, MulIt, MulIo, MulDi -/
import Derived.Test.YtofclfgaekjonaaZq4
import Derived.Test.YtofclfgaekjonaaZq1
import Derived.Deep.LoopGhost
import Derived.Deep.RegionHeld3
import Derived.Deep.MidRow
import Derived.Deep.DeepCutAuto
import Derived.Deep.RegionWith
import Derived.Test.YtofclfgaekjonaaZq2
import Derived.Test.YtofclfgaekjonaaZq0
namespace Go.Proofs.Ytofclfgaekjonaa
open Go.RowKit RM
set_option linter.unusedVariables false
set_option linter.unusedSimpArgs false
attribute [local irreducible] World.setCell

set_option maxRecDepth 100000 in
set_option maxHeartbeats 8000000 in
theorem lmul_t (a b c d : Int) (e : Nat) (p q r s : Int) (f : Nat) (g : Nat) (z : Bool) (L M N O : Int) (E : Nat) (w : World) (h0 : w.cell? ⟨g, 0, none⟩ = some (.bool z)) (f0 : w.frozen? ⟨g, 0, none⟩ = false) (he : e ≤ 60) (hf : f ≤ 60) (hx : vr a b c d = true) (hy : vr p q r s = true) (hs : e + f ≤ 60) (hv : vr (m0 a b c d p q r s) (m1 a b c d p q r s) (m2 a b c d p q r s) (m3 a b c d p q r s) = true) (hl : low (e + f) (m0 a b c d p q r s) (m1 a b c d p q r s) (m2 a b c d p q r s) (m3 a b c d p q r s) = ⟨L, M, N, O, E⟩) :
    Calls Try.prog 123 #[.pointer (some ⟨g, 0, none⟩), dy a b c d (e : Int), dy p q r s (f : Int)] w fun ee w' => ee = .returned (dy L M N O E) ∧ Below w.heap.size (w.setCell ⟨g, 0, none⟩ (.bool z)) w' := by
  have hg := World.block_lt_of_cell? w _ h0
  have hg2 : g < w.heap.size := hg
  have hg3 : g < w.heap.size + 1 := by omega
  have hg4 : g < w.heap.size + 1 + 1 := by omega
  have hB0 := bad_0 (B := w.heap.size) h0
  have he1 : (e : Int) ≤ 60 := by omega
  have hf1 : (f : Int) ≤ 60 := by omega
  have HX := hid hx
  clear hx
  have HY := hid hy
  clear hy
  have HS := hid hs
  clear hs
  have HV := hid hv
  clear hv
  have HL := hid hl
  clear hl
  have hs1 : ¬ ((60 : Int) < (e : Int) + (f : Int)) := by have := HS.out; omega
  have hw : IntKind.i64.wrap ((e : Int) + (f : Int)) = ((e + f : Nat) : Int) := by rw [wr64 (by omega) (by omega)]; omega
  go_enter Try.func123, Try.ntmps123
  go_upto_region 4 with (fail)
  generalize hW : ((w.alloc (.cells #[.int .i64 a, .int .i64 b, .int .i64 c, .int .i64 d, .int .i64 (e : Int)] 99)).alloc (.cells #[.int .i64 p, .int .i64 q, .int .i64 r, .int .i64 s, .int .i64 (f : Int)] 99)).alloc (.cells #[.int .i64 0, .int .i64 0, .int .i64 0, .int .i64 0, .int .i64 0] 99) = W
  have x0 : W.cell? ⟨w.heap.size, 0, none⟩ = some (.int .i64 a) := by subst hW; go_simp
  have x1 : W.cell? ⟨w.heap.size, 1, none⟩ = some (.int .i64 b) := by subst hW; go_simp
  have x2 : W.cell? ⟨w.heap.size, 2, none⟩ = some (.int .i64 c) := by subst hW; go_simp
  have x3 : W.cell? ⟨w.heap.size, 3, none⟩ = some (.int .i64 d) := by subst hW; go_simp
  have x4 : W.cell? ⟨w.heap.size, 4, none⟩ = some (.int .i64 (e : Int)) := by subst hW; go_simp
  have x5 : W.cell? ⟨w.heap.size + 1, 0, none⟩ = some (.int .i64 p) := by subst hW; go_simp
  have x6 : W.cell? ⟨w.heap.size + 1, 1, none⟩ = some (.int .i64 q) := by subst hW; go_simp
  have x7 : W.cell? ⟨w.heap.size + 1, 2, none⟩ = some (.int .i64 r) := by subst hW; go_simp
  have x8 : W.cell? ⟨w.heap.size + 1, 3, none⟩ = some (.int .i64 s) := by subst hW; go_simp
  have x9 : W.cell? ⟨w.heap.size + 1, 4, none⟩ = some (.int .i64 (f : Int)) := by subst hW; go_simp
  have hC5 : C5 W (w.heap.size + 1 + 1) 0 0 0 0 0 := by subst hW; exact ⟨by (first | rfl | assumption | (go_simp; done) | (simp (disch := (first | omega | (simp; done) | (simp; omega))) [go_sem, *]; done)), by (first | rfl | assumption | (go_simp; done) | (simp (disch := (first | omega | (simp; done) | (simp; omega))) [go_sem, *]; done)), by (first | rfl | assumption | (go_simp; done) | (simp (disch := (first | omega | (simp; done) | (simp; omega))) [go_sem, *]; done)), by (first | rfl | assumption | (go_simp; done) | (simp (disch := (first | omega | (simp; done) | (simp; omega))) [go_sem, *]; done)), by (first | rfl | assumption | (go_simp; done) | (simp (disch := (first | omega | (simp; done) | (simp; omega))) [go_sem, *]; done)), by (first | rfl | assumption | (go_simp; done) | (simp (disch := (first | omega | (simp; done) | (simp; omega))) [go_sem, *]; done)), by (first | rfl | assumption | (go_simp; done) | (simp (disch := (first | omega | (simp; done) | (simp; omega))) [go_sem, *]; done)), by (first | rfl | assumption | (go_simp; done) | (simp (disch := (first | omega | (simp; done) | (simp; omega))) [go_sem, *]; done)), by (first | rfl | assumption | (go_simp; done) | (simp (disch := (first | omega | (simp; done) | (simp; omega))) [go_sem, *]; done)), by (first | rfl | assumption | (go_simp; done) | (simp (disch := (first | omega | (simp; done) | (simp; omega))) [go_sem, *]; done))⟩
  have hC5d : C5 W.drew (w.heap.size + 1 + 1) 0 0 0 0 0 := ⟨hC5.c0, hC5.c1, hC5.c2, hC5.c3, hC5.c4, hC5.f0, hC5.f1, hC5.f2, hC5.f3, hC5.f4⟩
  have hBW : Below w.heap.size w W := by subst hW; exact ((((Below.refl _ _).alloc (Nat.le_refl _) _).alloc (by simp) _).alloc (by simp; omega) _)
  have gW : W.cell? ⟨g, 0, none⟩ = some (.bool z) := (hBW.cell (p := ⟨g, 0, none⟩) hg2).trans h0
  have gfW : W.frozen? ⟨g, 0, none⟩ = false := (hBW.frozen (p := ⟨g, 0, none⟩) hg2).trans f0
  have hsW : w.heap.size + 1 + 1 < W.heap.size := hC5.lt
  clear hW
  have y0 : W.drew.cell? ⟨w.heap.size, 0, none⟩ = some (.int .i64 a) := x0
  have y1 : W.drew.cell? ⟨w.heap.size, 1, none⟩ = some (.int .i64 b) := x1
  have y2 : W.drew.cell? ⟨w.heap.size, 2, none⟩ = some (.int .i64 c) := x2
  have y3 : W.drew.cell? ⟨w.heap.size, 3, none⟩ = some (.int .i64 d) := x3
  have y4 : W.drew.cell? ⟨w.heap.size, 4, none⟩ = some (.int .i64 (e : Int)) := x4
  have y5 : W.drew.cell? ⟨w.heap.size + 1, 0, none⟩ = some (.int .i64 p) := x5
  have y6 : W.drew.cell? ⟨w.heap.size + 1, 1, none⟩ = some (.int .i64 q) := x6
  have y7 : W.drew.cell? ⟨w.heap.size + 1, 2, none⟩ = some (.int .i64 r) := x7
  have y8 : W.drew.cell? ⟨w.heap.size + 1, 3, none⟩ = some (.int .i64 s) := x8
  have y9 : W.drew.cell? ⟨w.heap.size + 1, 4, none⟩ = some (.int .i64 (f : Int)) := x9
  go_region_held3 (fun w' => w'.cell? ⟨w.heap.size, 0, none⟩ = some (.int .i64 a) ∧ w'.cell? ⟨w.heap.size, 1, none⟩ = some (.int .i64 b) ∧ w'.cell? ⟨w.heap.size, 2, none⟩ = some (.int .i64 c) ∧ w'.cell? ⟨w.heap.size, 3, none⟩ = some (.int .i64 d) ∧ w'.cell? ⟨w.heap.size, 4, none⟩ = some (.int .i64 (e : Int)) ∧ w'.cell? ⟨w.heap.size + 1, 0, none⟩ = some (.int .i64 p) ∧ w'.cell? ⟨w.heap.size + 1, 1, none⟩ = some (.int .i64 q) ∧ w'.cell? ⟨w.heap.size + 1, 2, none⟩ = some (.int .i64 r) ∧ w'.cell? ⟨w.heap.size + 1, 3, none⟩ = some (.int .i64 s) ∧ w'.cell? ⟨w.heap.size + 1, 4, none⟩ = some (.int .i64 (f : Int)))
    (first | (with_reducible exact ⟨y0, y1, y2, y3, y4, y5, y6, y7, y8, y9⟩) | (go_split_ands; with_reducible exact ⟨kc hb1 (by with_reducible assumption), kc hb1 (by with_reducible assumption), kc hb1 (by with_reducible assumption), kc hb1 (by with_reducible assumption), kc hb1 (by with_reducible assumption), kc hb1 (by with_reducible assumption), kc hb1 (by with_reducible assumption), kc hb1 (by with_reducible assumption), kc hb1 (by with_reducible assumption), kc hb1 (by with_reducible assumption)⟩) | (go_split_ands; with_reducible exact ⟨kc hb2 (by with_reducible assumption), kc hb2 (by with_reducible assumption), kc hb2 (by with_reducible assumption), kc hb2 (by with_reducible assumption), kc hb2 (by with_reducible assumption), kc hb2 (by with_reducible assumption), kc hb2 (by with_reducible assumption), kc hb2 (by with_reducible assumption), kc hb2 (by with_reducible assumption), kc hb2 (by with_reducible assumption)⟩) | (go_split_ands; with_reducible exact ⟨kc hb3 (by with_reducible assumption), kc hb3 (by with_reducible assumption), kc hb3 (by with_reducible assumption), kc hb3 (by with_reducible assumption), kc hb3 (by with_reducible assumption), kc hb3 (by with_reducible assumption), kc hb3 (by with_reducible assumption), kc hb3 (by with_reducible assumption), kc hb3 (by with_reducible assumption), kc hb3 (by with_reducible assumption)⟩) | (go_split_ands; with_reducible exact ⟨ks5 (by omega) (by with_reducible assumption), ks5 (by omega) (by with_reducible assumption), ks5 (by omega) (by with_reducible assumption), ks5 (by omega) (by with_reducible assumption), ks5 (by omega) (by with_reducible assumption), ks5 (by omega) (by with_reducible assumption), ks5 (by omega) (by with_reducible assumption), ks5 (by omega) (by with_reducible assumption), ks5 (by omega) (by with_reducible assumption), ks5 (by omega) (by with_reducible assumption)⟩))
    (first
      | (go_at_call 168; ((with_reducible refine (lm a b c d p q r s _ HX.out HY.out).mono ?_); rintro ee w1 ⟨rfl, hb1⟩; obtain ⟨hc1, hf1, hz1⟩ := bcellB hb1; (try simp only [World.size_drew, World.size_alloc, World.size_setCell] at hz1)))
      | (go_at_call 167; ((with_reducible refine (ring_t _ _ _ _ _ _ HV.out).mono ?_); rintro ee w2 ⟨rfl, hb2⟩; obtain ⟨hc2, hf2, hz2⟩ := bcellB hb2; (try simp only [World.size_drew, World.size_alloc, World.size_setCell] at hz2); (first | (have ho2w1 : w1.heap.size < w2.heap.size := (by omega)) | (have ho2w1 : w1.heap.size ≤ w2.heap.size := (by omega)) | skip)))
      | (go_at_call 166; ((with_reducible refine (l2lowx _ _ _ _ _ (e + f) _ _ _ _ _ _ (Int.natCast_add e f).symm HV.out HS.out HL.out).mono ?_); rintro ee w3 ⟨rfl, hb3⟩; obtain ⟨hc3, hf3, hz3⟩ := bcellB hb3; (try simp only [World.size_drew, World.size_alloc, World.size_setCell] at hz3); (first | (have ho3w2 : w2.heap.size < w3.heap.size := (by omega)) | (have ho3w2 : w2.heap.size ≤ w3.heap.size := (by omega)) | skip); (first | (have ho3w1 : w1.heap.size < w3.heap.size := (by omega)) | (have ho3w1 : w1.heap.size ≤ w3.heap.size := (by omega)) | skip); have hC3 := ((hC5d.mono hb1).mono hb2).mono hb3; obtain ⟨z0, z1, z2, z3, z4, z5, z6, z7, z8, z9⟩ := hC3; have hzz := World.block_lt_of_cell? w3 _ z0)))
  all_goals (go_wp2_with fail; refine bodyPost_ret (v := dy L M N O E) (by first | (simp [results, Try.results123, go_sem, *]; done) | (simp (disch := (first | omega | (simp; done) | (simp; omega))) [results, Try.results123, go_sem, *]; done) | (simp only [results, Try.results123]; go_simp; done)) rfl ⟨rfl, ?_⟩)
  all_goals (repeat' (first | (with_reducible assumption) | (with_reducible exact Below.refl _ _) | (with_reducible refine Below.alloc ?_ ?_ _) | (with_reducible refine Below.drew ?_) | (with_reducible refine both ?_ _ _ ?_ _) | (with_reducible refine Below.setCell ?_ ?_ _) | (with_reducible refine chain2 ?_ (by with_reducible assumption) ?_) | (with_reducible refine chain ?_ (by with_reducible assumption) ?_) | omega | (simp; done) | (simp; omega)))
end Go.Proofs.Ytofclfgaekjonaa
namespace Go.Proofs.Ytofclfgaekjonaa
open Go.RowKit RM
set_option linter.unusedVariables false
set_option linter.unusedSimpArgs false
attribute [local irreducible] World.setCell

set_option maxRecDepth 100000 in
set_option maxHeartbeats 8000000 in
theorem lmul_o (a b c d : Int) (e : Nat) (p q r s : Int) (f : Nat) (g : Nat) (z : Bool) (L M N O : Int) (E : Nat) (w : World) (h0 : w.cell? ⟨g, 0, none⟩ = some (.bool z)) (f0 : w.frozen? ⟨g, 0, none⟩ = false) (he : e ≤ 60) (hf : f ≤ 60) (hx : vr a b c d = true) (hy : vr p q r s = true) (hs : e + f ≤ 60) (hv : vr (m0 a b c d p q r s) (m1 a b c d p q r s) (m2 a b c d p q r s) (m3 a b c d p q r s) = false) (hl : low (e + f) 0 0 0 0 = ⟨L, M, N, O, E⟩) :
    Calls Try.prog 123 #[.pointer (some ⟨g, 0, none⟩), dy a b c d (e : Int), dy p q r s (f : Int)] w fun ee w' => ee = .returned (dy L M N O E) ∧ Below w.heap.size (w.setCell ⟨g, 0, none⟩ (.bool true)) w' := by
  have hg := World.block_lt_of_cell? w _ h0
  have hg2 : g < w.heap.size := hg
  have hg3 : g < w.heap.size + 1 := by omega
  have hg4 : g < w.heap.size + 1 + 1 := by omega
  have hB0 := bad_0 (B := w.heap.size) h0
  have he1 : (e : Int) ≤ 60 := by omega
  have hf1 : (f : Int) ≤ 60 := by omega
  have HX := hid hx
  clear hx
  have HY := hid hy
  clear hy
  have HS := hid hs
  clear hs
  have HV := hid hv
  clear hv
  have HL := hid hl
  clear hl
  have hs1 : ¬ ((60 : Int) < (e : Int) + (f : Int)) := by have := HS.out; omega
  have hw : IntKind.i64.wrap ((e : Int) + (f : Int)) = ((e + f : Nat) : Int) := by rw [wr64 (by omega) (by omega)]; omega
  go_enter Try.func123, Try.ntmps123
  go_upto_region 4 with (fail)
  generalize hW : ((w.alloc (.cells #[.int .i64 a, .int .i64 b, .int .i64 c, .int .i64 d, .int .i64 (e : Int)] 99)).alloc (.cells #[.int .i64 p, .int .i64 q, .int .i64 r, .int .i64 s, .int .i64 (f : Int)] 99)).alloc (.cells #[.int .i64 0, .int .i64 0, .int .i64 0, .int .i64 0, .int .i64 0] 99) = W
  have x0 : W.cell? ⟨w.heap.size, 0, none⟩ = some (.int .i64 a) := by subst hW; go_simp
  have x1 : W.cell? ⟨w.heap.size, 1, none⟩ = some (.int .i64 b) := by subst hW; go_simp
  have x2 : W.cell? ⟨w.heap.size, 2, none⟩ = some (.int .i64 c) := by subst hW; go_simp
  have x3 : W.cell? ⟨w.heap.size, 3, none⟩ = some (.int .i64 d) := by subst hW; go_simp
  have x4 : W.cell? ⟨w.heap.size, 4, none⟩ = some (.int .i64 (e : Int)) := by subst hW; go_simp
  have x5 : W.cell? ⟨w.heap.size + 1, 0, none⟩ = some (.int .i64 p) := by subst hW; go_simp
  have x6 : W.cell? ⟨w.heap.size + 1, 1, none⟩ = some (.int .i64 q) := by subst hW; go_simp
  have x7 : W.cell? ⟨w.heap.size + 1, 2, none⟩ = some (.int .i64 r) := by subst hW; go_simp
  have x8 : W.cell? ⟨w.heap.size + 1, 3, none⟩ = some (.int .i64 s) := by subst hW; go_simp
  have x9 : W.cell? ⟨w.heap.size + 1, 4, none⟩ = some (.int .i64 (f : Int)) := by subst hW; go_simp
  have hC5 : C5 W (w.heap.size + 1 + 1) 0 0 0 0 0 := by subst hW; exact ⟨by (first | rfl | assumption | (go_simp; done) | (simp (disch := (first | omega | (simp; done) | (simp; omega))) [go_sem, *]; done)), by (first | rfl | assumption | (go_simp; done) | (simp (disch := (first | omega | (simp; done) | (simp; omega))) [go_sem, *]; done)), by (first | rfl | assumption | (go_simp; done) | (simp (disch := (first | omega | (simp; done) | (simp; omega))) [go_sem, *]; done)), by (first | rfl | assumption | (go_simp; done) | (simp (disch := (first | omega | (simp; done) | (simp; omega))) [go_sem, *]; done)), by (first | rfl | assumption | (go_simp; done) | (simp (disch := (first | omega | (simp; done) | (simp; omega))) [go_sem, *]; done)), by (first | rfl | assumption | (go_simp; done) | (simp (disch := (first | omega | (simp; done) | (simp; omega))) [go_sem, *]; done)), by (first | rfl | assumption | (go_simp; done) | (simp (disch := (first | omega | (simp; done) | (simp; omega))) [go_sem, *]; done)), by (first | rfl | assumption | (go_simp; done) | (simp (disch := (first | omega | (simp; done) | (simp; omega))) [go_sem, *]; done)), by (first | rfl | assumption | (go_simp; done) | (simp (disch := (first | omega | (simp; done) | (simp; omega))) [go_sem, *]; done)), by (first | rfl | assumption | (go_simp; done) | (simp (disch := (first | omega | (simp; done) | (simp; omega))) [go_sem, *]; done))⟩
  have hC5d : C5 W.drew (w.heap.size + 1 + 1) 0 0 0 0 0 := ⟨hC5.c0, hC5.c1, hC5.c2, hC5.c3, hC5.c4, hC5.f0, hC5.f1, hC5.f2, hC5.f3, hC5.f4⟩
  have hBW : Below w.heap.size w W := by subst hW; exact ((((Below.refl _ _).alloc (Nat.le_refl _) _).alloc (by simp) _).alloc (by simp; omega) _)
  have gW : W.cell? ⟨g, 0, none⟩ = some (.bool z) := (hBW.cell (p := ⟨g, 0, none⟩) hg2).trans h0
  have gfW : W.frozen? ⟨g, 0, none⟩ = false := (hBW.frozen (p := ⟨g, 0, none⟩) hg2).trans f0
  have hsW : w.heap.size + 1 + 1 < W.heap.size := hC5.lt
  clear hW
  have gWd : W.drew.cell? ⟨g, 0, none⟩ = some (.bool z) := gW
  have gfWd : W.drew.frozen? ⟨g, 0, none⟩ = false := gfW
  have y0 : W.drew.cell? ⟨w.heap.size, 0, none⟩ = some (.int .i64 a) := x0
  have y1 : W.drew.cell? ⟨w.heap.size, 1, none⟩ = some (.int .i64 b) := x1
  have y2 : W.drew.cell? ⟨w.heap.size, 2, none⟩ = some (.int .i64 c) := x2
  have y3 : W.drew.cell? ⟨w.heap.size, 3, none⟩ = some (.int .i64 d) := x3
  have y4 : W.drew.cell? ⟨w.heap.size, 4, none⟩ = some (.int .i64 (e : Int)) := x4
  have y5 : W.drew.cell? ⟨w.heap.size + 1, 0, none⟩ = some (.int .i64 p) := x5
  have y6 : W.drew.cell? ⟨w.heap.size + 1, 1, none⟩ = some (.int .i64 q) := x6
  have y7 : W.drew.cell? ⟨w.heap.size + 1, 2, none⟩ = some (.int .i64 r) := x7
  have y8 : W.drew.cell? ⟨w.heap.size + 1, 3, none⟩ = some (.int .i64 s) := x8
  have y9 : W.drew.cell? ⟨w.heap.size + 1, 4, none⟩ = some (.int .i64 (f : Int)) := x9
  go_region_held3 (fun w' => w'.cell? ⟨w.heap.size, 0, none⟩ = some (.int .i64 a) ∧ w'.cell? ⟨w.heap.size, 1, none⟩ = some (.int .i64 b) ∧ w'.cell? ⟨w.heap.size, 2, none⟩ = some (.int .i64 c) ∧ w'.cell? ⟨w.heap.size, 3, none⟩ = some (.int .i64 d) ∧ w'.cell? ⟨w.heap.size, 4, none⟩ = some (.int .i64 (e : Int)) ∧ w'.cell? ⟨w.heap.size + 1, 0, none⟩ = some (.int .i64 p) ∧ w'.cell? ⟨w.heap.size + 1, 1, none⟩ = some (.int .i64 q) ∧ w'.cell? ⟨w.heap.size + 1, 2, none⟩ = some (.int .i64 r) ∧ w'.cell? ⟨w.heap.size + 1, 3, none⟩ = some (.int .i64 s) ∧ w'.cell? ⟨w.heap.size + 1, 4, none⟩ = some (.int .i64 (f : Int)))
    (first | (with_reducible exact ⟨y0, y1, y2, y3, y4, y5, y6, y7, y8, y9⟩) | (go_split_ands; with_reducible exact ⟨kc hb1 (by with_reducible assumption), kc hb1 (by with_reducible assumption), kc hb1 (by with_reducible assumption), kc hb1 (by with_reducible assumption), kc hb1 (by with_reducible assumption), kc hb1 (by with_reducible assumption), kc hb1 (by with_reducible assumption), kc hb1 (by with_reducible assumption), kc hb1 (by with_reducible assumption), kc hb1 (by with_reducible assumption)⟩) | (go_split_ands; with_reducible exact ⟨kcs hb2 (by omega) (by with_reducible assumption), kcs hb2 (by omega) (by with_reducible assumption), kcs hb2 (by omega) (by with_reducible assumption), kcs hb2 (by omega) (by with_reducible assumption), kcs hb2 (by omega) (by with_reducible assumption), kcs hb2 (by omega) (by with_reducible assumption), kcs hb2 (by omega) (by with_reducible assumption), kcs hb2 (by omega) (by with_reducible assumption), kcs hb2 (by omega) (by with_reducible assumption), kcs hb2 (by omega) (by with_reducible assumption)⟩) | (go_split_ands; with_reducible exact ⟨kc hb3 (by with_reducible assumption), kc hb3 (by with_reducible assumption), kc hb3 (by with_reducible assumption), kc hb3 (by with_reducible assumption), kc hb3 (by with_reducible assumption), kc hb3 (by with_reducible assumption), kc hb3 (by with_reducible assumption), kc hb3 (by with_reducible assumption), kc hb3 (by with_reducible assumption), kc hb3 (by with_reducible assumption)⟩) | (go_split_ands; with_reducible exact ⟨ks5 (by omega) (by with_reducible assumption), ks5 (by omega) (by with_reducible assumption), ks5 (by omega) (by with_reducible assumption), ks5 (by omega) (by with_reducible assumption), ks5 (by omega) (by with_reducible assumption), ks5 (by omega) (by with_reducible assumption), ks5 (by omega) (by with_reducible assumption), ks5 (by omega) (by with_reducible assumption), ks5 (by omega) (by with_reducible assumption), ks5 (by omega) (by with_reducible assumption)⟩))
    (first
      | (go_at_call 168; ((with_reducible refine (lm a b c d p q r s _ HX.out HY.out).mono ?_); rintro ee w1 ⟨rfl, hb1⟩; obtain ⟨hc1, hf1, hz1⟩ := bcellB hb1; (try simp only [World.size_drew, World.size_alloc, World.size_setCell] at hz1)))
      | (go_at_call 167; ((with_reducible refine (ring_f g _ _ _ _ z _ (kc hb1 gWd) (kf hb1 gWd gfWd) HV.out).mono ?_); rintro ee w2 ⟨rfl, hb2⟩; obtain ⟨hc2, hf2, hz2⟩ := bcellB hb2; (try simp only [World.size_drew, World.size_alloc, World.size_setCell] at hz2); (first | (have ho2w1 : w1.heap.size < w2.heap.size := (by omega)) | (have ho2w1 : w1.heap.size ≤ w2.heap.size := (by omega)) | skip)))
      | (go_at_call 166; ((with_reducible refine (l2lowx _ _ _ _ _ (e + f) _ _ _ _ _ _ (Int.natCast_add e f).symm (by decide) HS.out HL.out).mono ?_); rintro ee w3 ⟨rfl, hb3⟩; obtain ⟨hc3, hf3, hz3⟩ := bcellB hb3; (try simp only [World.size_drew, World.size_alloc, World.size_setCell] at hz3); (first | (have ho3w2 : w2.heap.size < w3.heap.size := (by omega)) | (have ho3w2 : w2.heap.size ≤ w3.heap.size := (by omega)) | skip); (first | (have ho3w1 : w1.heap.size < w3.heap.size := (by omega)) | (have ho3w1 : w1.heap.size ≤ w3.heap.size := (by omega)) | skip); have hC3 := ((hC5d.mono hb1).monos (by omega) hb2).mono hb3; obtain ⟨z0, z1, z2, z3, z4, z5, z6, z7, z8, z9⟩ := hC3; have hzz := World.block_lt_of_cell? w3 _ z0)))
  all_goals (go_wp2_with fail; refine bodyPost_ret (v := dy L M N O E) (by first | (simp [results, Try.results123, go_sem, *]; done) | (simp (disch := (first | omega | (simp; done) | (simp; omega))) [results, Try.results123, go_sem, *]; done) | (simp only [results, Try.results123]; go_simp; done)) rfl ⟨rfl, ?_⟩)
  all_goals (have hdW : W.drew.heap.size = W.heap.size := rfl; have hBB := bad_step (v := .bool true) (chain2 (chain2 hB0 hBW (Nat.le_refl _)).drew hb1 (by omega)) hg2 hb2 (by omega))
  all_goals (repeat' (first | (with_reducible assumption) | (with_reducible exact Below.refl _ _) | (with_reducible refine Below.alloc ?_ ?_ _) | (with_reducible refine Below.drew ?_) | (with_reducible refine both ?_ _ _ ?_ _) | (with_reducible refine Below.setCell ?_ ?_ _) | (with_reducible refine chain2 ?_ (by with_reducible assumption) ?_) | (with_reducible refine chain ?_ (by with_reducible assumption) ?_) | omega | (simp; done) | (simp; omega)))

set_option maxRecDepth 100000 in
set_option maxHeartbeats 8000000 in
theorem lmul_x (a b c d : Int) (e : Nat) (p q r s : Int) (f : Nat) (g : Nat) (z : Bool) (w : World) (h0 : w.cell? ⟨g, 0, none⟩ = some (.bool z)) (f0 : w.frozen? ⟨g, 0, none⟩ = false) (he : e ≤ 60) (hf : f ≤ 60) (hs : ¬ (e + f ≤ 60)) :
    Calls Try.prog 123 #[.pointer (some ⟨g, 0, none⟩), dy a b c d (e : Int), dy p q r s (f : Int)] w fun ee w' => ee = .returned (dy 0 0 0 0 0) ∧ Below w.heap.size (w.setCell ⟨g, 0, none⟩ (.bool true)) w' := by
  have hg := World.block_lt_of_cell? w _ h0
  have hg2 : g < w.heap.size := hg
  have hg3 : g < w.heap.size + 1 := by omega
  have hg4 : g < w.heap.size + 1 + 1 := by omega
  have hB0 := bad_0 (B := w.heap.size) h0
  have he1 : (e : Int) ≤ 60 := by omega
  have hf1 : (f : Int) ≤ 60 := by omega
  have HS := hid hs
  clear hs
  have hs1 : (60 : Int) < (e : Int) + (f : Int) := by have := HS.out; omega
  go_enter Try.func123, Try.ntmps123
  go_wp2_with (fail)
  refine bodyPost_ret (v := dy 0 0 0 0 0) (by first | (simp [results, Try.results123, go_sem, *]; done) | (simp (disch := (first | omega | (simp; done) | (simp; omega))) [results, Try.results123, go_sem, *]; done) | (simp only [results, Try.results123]; go_simp; done)) rfl ⟨rfl, ?_⟩
  repeat' (first | (with_reducible assumption) | (with_reducible exact Below.refl _ _) | (with_reducible refine Below.alloc ?_ ?_ _) | (with_reducible refine Below.drew ?_) | (with_reducible refine both ?_ _ _ ?_ _) | (with_reducible refine Below.setCell ?_ ?_ _) | (with_reducible refine chain2 ?_ (by with_reducible assumption) ?_) | (with_reducible refine chain ?_ (by with_reducible assumption) ?_) | omega | (simp; done) | (simp; omega))
end Go.Proofs.Ytofclfgaekjonaa
namespace Go.Proofs.Ytofclfgaekjonaa
open Go.RowKit RM
set_option linter.unusedVariables false
set_option linter.unusedSimpArgs false
attribute [local irreducible] World.setCell
end Go.Proofs.Ytofclfgaekjonaa
namespace Go.Proofs.Ytofclfgaekjonaa
open Go.RowKit RM
set_option linter.unusedVariables false
set_option linter.unusedSimpArgs false

set_option maxRecDepth 100000 in
set_option maxHeartbeats 2000000 in
theorem mul_i_t (a b c d p q r s : Int) (w : World) (hx : vr a b c d = true) (hy : vr p q r s = true) (hv : vr (m0 a b c d p q r s) (m1 a b c d p q r s) (m2 a b c d p q r s) (m3 a b c d p q r s) = true) :
    Calls Try.prog 174 #[rg a b c d, rg p q r s] w fun e w' => e = .returned (rt (m0 a b c d p q r s) (m1 a b c d p q r s) (m2 a b c d p q r s) (m3 a b c d p q r s) true) ∧ Below w.heap.size w w' := by
  have HX := hid hx
  clear hx
  have HY := hid hy
  clear hy
  have HV := hid hv
  clear hv
  go_enter Try.func174, Try.ntmps174
  go_wp2_with (first | (go_at_call 172; ((with_reducible refine (iv_t _ _ _ _ _ HX.out).mono ?_); rintro e w1 ⟨rfl, hb1⟩; obtain ⟨hc1, hf1, _⟩ := bcell hb1; have hz1 := hb1.size; (try simp at hz1); (try have hx10 : w.heap.size < w1.heap.size := (by omega)); (try have hx11 : w.heap.size + 1 < w1.heap.size := (by omega)); (try have hx12 : w.heap.size + 1 + 1 < w1.heap.size := (by omega)); (try have hx13 : w.heap.size + 1 + 1 + 1 < w1.heap.size := (by omega)))) | (go_at_call 172; ((with_reducible refine (iv_t _ _ _ _ _ HY.out).mono ?_); rintro e w2 ⟨rfl, hb2⟩; obtain ⟨hc2, hf2, _⟩ := bcell hb2; have hz2 := hb2.size; (try simp at hz2); (try have hx20 : w.heap.size < w2.heap.size := (by omega)); (try have hx21 : w.heap.size + 1 < w2.heap.size := (by omega)); (try have hx22 : w.heap.size + 1 + 1 < w2.heap.size := (by omega)); (try have hx23 : w.heap.size + 1 + 1 + 1 < w2.heap.size := (by omega)))))
  go_region_with (first
   | (go_at_call 180; ((with_reducible refine (co _ _ _ _ _).mono ?_); rintro e w3 ⟨rfl, hb3⟩; ((first | (have hq3 := bcell_drew hb3) | (have hq3 := bcell hb3))); obtain ⟨hc3, hf3, hz3⟩ := hq3; (try simp at hz3); (try have hx30 : w.heap.size < w3.heap.size := (by omega)); (try have hx31 : w.heap.size + 1 < w3.heap.size := (by omega)); (try have hx32 : w.heap.size + 1 + 1 < w3.heap.size := (by omega))))
   | (go_at_call 179; ((with_reducible refine (mc _ _ _ _ _ _ _ _ _ HX.out HY.out).mono ?_); rintro e w4 ⟨rfl, hb4⟩; ((first | (have hq4 := bcell_drew hb4) | (have hq4 := bcell hb4))); obtain ⟨hc4, hf4, hz4⟩ := hq4; (try simp at hz4); (try have hx40 : w.heap.size < w4.heap.size := (by omega)); (try have hx41 : w.heap.size + 1 < w4.heap.size := (by omega)); (try have hx42 : w.heap.size + 1 + 1 < w4.heap.size := (by omega))))
   | (go_at_call 178; ((with_reducible refine (ro_t _ _ _ _ _ HV.out).mono ?_); rintro e w5 ⟨rfl, hb5⟩; ((first | (have hq5 := bcell_drew hb5) | (have hq5 := bcell hb5))); obtain ⟨hc5, hf5, hz5⟩ := hq5; (try simp at hz5); (try have hx50 : w.heap.size < w5.heap.size := (by omega)); (try have hx51 : w.heap.size + 1 < w5.heap.size := (by omega)); (try have hx52 : w.heap.size + 1 + 1 < w5.heap.size := (by omega)))))
  all_goals (go_wp2; refine bodyPost_ret (v := rt (m0 a b c d p q r s) (m1 a b c d p q r s) (m2 a b c d p q r s) (m3 a b c d p q r s) true) (by simp [results, Try.results174, go_sem, *]) rfl ⟨rfl, ?_⟩)
  all_goals (repeat' (first | (with_reducible exact Below.refl _ _) | (with_reducible refine Below.alloc ?_ ?_ _) | (with_reducible refine Below.drew ?_) | (with_reducible refine Below.setCell ?_ ?_ _) | (with_reducible refine chain ?_ (by assumption) ?_) | omega | (simp; done) | (simp; omega)))
end Go.Proofs.Ytofclfgaekjonaa
namespace Go.Proofs.Ytofclfgaekjonaa
open Go.RowKit RM
set_option linter.unusedVariables false
set_option linter.unusedSimpArgs false

set_option maxRecDepth 100000 in
set_option maxHeartbeats 2000000 in
theorem mul_i_o (a b c d p q r s : Int) (w : World) (hx : vr a b c d = true) (hy : vr p q r s = true) (hv : vr (m0 a b c d p q r s) (m1 a b c d p q r s) (m2 a b c d p q r s) (m3 a b c d p q r s) = false) :
    Calls Try.prog 174 #[rg a b c d, rg p q r s] w fun e w' => e = .returned (rt 0 0 0 0 false) ∧ Below w.heap.size w w' := by
  have HX := hid hx
  clear hx
  have HY := hid hy
  clear hy
  have HV := hid hv
  clear hv
  go_enter Try.func174, Try.ntmps174
  go_wp2_with (first | (go_at_call 172; ((with_reducible refine (iv_t _ _ _ _ _ HX.out).mono ?_); rintro e w1 ⟨rfl, hb1⟩; obtain ⟨hc1, hf1, _⟩ := bcell hb1; have hz1 := hb1.size; (try simp at hz1); (try have hx10 : w.heap.size < w1.heap.size := (by omega)); (try have hx11 : w.heap.size + 1 < w1.heap.size := (by omega)); (try have hx12 : w.heap.size + 1 + 1 < w1.heap.size := (by omega)); (try have hx13 : w.heap.size + 1 + 1 + 1 < w1.heap.size := (by omega)))) | (go_at_call 172; ((with_reducible refine (iv_t _ _ _ _ _ HY.out).mono ?_); rintro e w2 ⟨rfl, hb2⟩; obtain ⟨hc2, hf2, _⟩ := bcell hb2; have hz2 := hb2.size; (try simp at hz2); (try have hx20 : w.heap.size < w2.heap.size := (by omega)); (try have hx21 : w.heap.size + 1 < w2.heap.size := (by omega)); (try have hx22 : w.heap.size + 1 + 1 < w2.heap.size := (by omega)); (try have hx23 : w.heap.size + 1 + 1 + 1 < w2.heap.size := (by omega)))))
  go_region_with (first
   | (go_at_call 180; ((with_reducible refine (co _ _ _ _ _).mono ?_); rintro e w3 ⟨rfl, hb3⟩; ((first | (have hq3 := bcell_drew hb3) | (have hq3 := bcell hb3))); obtain ⟨hc3, hf3, hz3⟩ := hq3; (try simp at hz3); (try have hx30 : w.heap.size < w3.heap.size := (by omega)); (try have hx31 : w.heap.size + 1 < w3.heap.size := (by omega)); (try have hx32 : w.heap.size + 1 + 1 < w3.heap.size := (by omega))))
   | (go_at_call 179; ((with_reducible refine (mc _ _ _ _ _ _ _ _ _ HX.out HY.out).mono ?_); rintro e w4 ⟨rfl, hb4⟩; ((first | (have hq4 := bcell_drew hb4) | (have hq4 := bcell hb4))); obtain ⟨hc4, hf4, hz4⟩ := hq4; (try simp at hz4); (try have hx40 : w.heap.size < w4.heap.size := (by omega)); (try have hx41 : w.heap.size + 1 < w4.heap.size := (by omega)); (try have hx42 : w.heap.size + 1 + 1 < w4.heap.size := (by omega))))
   | (go_at_call 178; ((with_reducible refine (ro_f _ _ _ _ _ HV.out).mono ?_); rintro e w5 ⟨rfl, hb5⟩; ((first | (have hq5 := bcell_drew hb5) | (have hq5 := bcell hb5))); obtain ⟨hc5, hf5, hz5⟩ := hq5; (try simp at hz5); (try have hx50 : w.heap.size < w5.heap.size := (by omega)); (try have hx51 : w.heap.size + 1 < w5.heap.size := (by omega)); (try have hx52 : w.heap.size + 1 + 1 < w5.heap.size := (by omega)))))
  all_goals (go_wp2; refine bodyPost_ret (v := rt 0 0 0 0 false) (by simp [results, Try.results174, go_sem, *]) rfl ⟨rfl, ?_⟩)
  all_goals (repeat' (first | (with_reducible exact Below.refl _ _) | (with_reducible refine Below.alloc ?_ ?_ _) | (with_reducible refine Below.drew ?_) | (with_reducible refine Below.setCell ?_ ?_ _) | (with_reducible refine chain ?_ (by assumption) ?_) | omega | (simp; done) | (simp; omega)))

end Go.Proofs.Ytofclfgaekjonaa
namespace Go.Proofs.Ytofclfgaekjonaa
open Go.RowKit RM
set_option linter.unusedVariables false
set_option linter.unusedSimpArgs false
attribute [local irreducible] World.setCell

set_option maxRecDepth 100000 in
set_option maxHeartbeats 4000000 in
theorem mulD_i_t (a b c d : Int) (e : Nat) (p q r s : Int) (f : Nat) (L M N O : Int) (E : Nat) (w : World) (hx : vd a b c d e = true) (hy : vd p q r s f = true) (hs : e + f ≤ 60) (hv : vr (m0 a b c d p q r s) (m1 a b c d p q r s) (m2 a b c d p q r s) (m3 a b c d p q r s) = true) (hl : low (e + f) (m0 a b c d p q r s) (m1 a b c d p q r s) (m2 a b c d p q r s) (m3 a b c d p q r s) = ⟨L, M, N, O, E⟩) :
    Calls Try.prog 134 #[dy a b c d (e : Int), dy p q r s (f : Int)] w fun ee w' => ee = .returned (dt L M N O E true) ∧ Below w.heap.size w w' := by
  have HX1 := hid (vd_iff.1 hx).1
  have HY1 := hid (vd_iff.1 hy).1
  have he1 : (e : Int) ≤ 60 := by have := (vd_iff.1 hx).2.1; omega
  have hf1 : (f : Int) ≤ 60 := by have := (vd_iff.1 hy).2.1; omega
  have hw : IntKind.i64.wrap ((e : Int) + (f : Int)) = ((e + f : Nat) : Int) := by rw [wr64 (by omega) (by omega)]; omega
  have HX := hid hx
  clear hx
  have HY := hid hy
  clear hy
  have HS := hid hs
  clear hs
  have HV := hid hv
  clear hv
  have HL := hid hl
  clear hl
  go_enter Try.func134, Try.ntmps134
  go_wp2_with (first | (go_at_call 71; ((with_reducible refine (ivd_v _ HX.out).mono ?_); rintro ee w1 ⟨rfl, hb1⟩; obtain ⟨hc1, hf1, _⟩ := bcell hb1; have hz1 := hb1.size; (try simp at hz1); (try have hx10 : w.heap.size < w1.heap.size := (by omega)); (try have hx11 : w.heap.size + 1 < w1.heap.size := (by omega)); (try have hx12 : w.heap.size + 1 + 1 < w1.heap.size := (by omega)); (try have hx13 : w.heap.size + 1 + 1 + 1 < w1.heap.size := (by omega)))) | (go_at_call 71; ((with_reducible refine (ivd_v _ HY.out).mono ?_); rintro ee w2 ⟨rfl, hb2⟩; obtain ⟨hc2, hf2, _⟩ := bcell hb2; have hz2 := hb2.size; (try simp at hz2); (try have hx20 : w.heap.size < w2.heap.size := (by omega)); (try have hx21 : w.heap.size + 1 < w2.heap.size := (by omega)); (try have hx22 : w.heap.size + 1 + 1 < w2.heap.size := (by omega)); (try have hx23 : w.heap.size + 1 + 1 + 1 < w2.heap.size := (by omega)))) | (go_at_call 174; ((with_reducible refine (mul_i_t _ _ _ _ _ _ _ _ _ HX1.out HY1.out HV.out).mono ?_); rintro ee w3 ⟨rfl, hb3⟩; obtain ⟨hc3, hf3, _⟩ := bcell hb3; have hz3 := hb3.size; (try simp at hz3); (try have hx30 : w.heap.size < w3.heap.size := (by omega)); (try have hx31 : w.heap.size + 1 < w3.heap.size := (by omega)); (try have hx32 : w.heap.size + 1 + 1 < w3.heap.size := (by omega)); (try have hx33 : w.heap.size + 1 + 1 + 1 < w3.heap.size := (by omega)))) | (go_at_call 130; ((with_reducible refine (dofx _ _ _ _ _ (e + f) _ _ _ _ _ _ (Int.natCast_add e f).symm HV.out HS.out HL.out).mono ?_); rintro ee w4 ⟨rfl, hb4⟩; obtain ⟨hc4, hf4, _⟩ := bcell hb4; have hz4 := hb4.size; (try simp at hz4); (try have hx40 : w.heap.size < w4.heap.size := (by omega)); (try have hx41 : w.heap.size + 1 < w4.heap.size := (by omega)); (try have hx42 : w.heap.size + 1 + 1 < w4.heap.size := (by omega)); (try have hx43 : w.heap.size + 1 + 1 + 1 < w4.heap.size := (by omega)))) | go_in)
  refine bodyPost_ret (v := dt L M N O E true) (by first | (simp [results, Try.results134, go_sem, *]; done) | (simp (disch := (first | omega | (simp; done) | (simp; omega))) [results, Try.results134, go_sem, *]; done) | (simp only [results, Try.results134]; go_simp; done)) rfl ⟨rfl, ?_⟩
  repeat' (first | (with_reducible exact Below.refl _ _) | (with_reducible refine Below.alloc ?_ ?_ _) | (with_reducible refine Below.drew ?_) | (with_reducible refine Below.setCell ?_ ?_ _) | (with_reducible refine chain ?_ (by assumption) ?_) | omega | (simp; done) | (simp; omega))

set_option maxRecDepth 100000 in
set_option maxHeartbeats 4000000 in
theorem mulD_i_o (a b c d : Int) (e : Nat) (p q r s : Int) (f : Nat) (w : World) (hx : vd a b c d e = true) (hy : vd p q r s f = true) (hv : vr (m0 a b c d p q r s) (m1 a b c d p q r s) (m2 a b c d p q r s) (m3 a b c d p q r s) = false) :
    Calls Try.prog 134 #[dy a b c d (e : Int), dy p q r s (f : Int)] w fun ee w' => ee = .returned (dt 0 0 0 0 0 false) ∧ Below w.heap.size w w' := by
  have HX1 := hid (vd_iff.1 hx).1
  have HY1 := hid (vd_iff.1 hy).1
  have he1 : (e : Int) ≤ 60 := by have := (vd_iff.1 hx).2.1; omega
  have hf1 : (f : Int) ≤ 60 := by have := (vd_iff.1 hy).2.1; omega
  have hw : IntKind.i64.wrap ((e : Int) + (f : Int)) = ((e + f : Nat) : Int) := by rw [wr64 (by omega) (by omega)]; omega
  have HX := hid hx
  clear hx
  have HY := hid hy
  clear hy
  have HV := hid hv
  clear hv
  go_enter Try.func134, Try.ntmps134
  go_wp2_with (first | (go_at_call 71; ((with_reducible refine (ivd_v _ HX.out).mono ?_); rintro ee w1 ⟨rfl, hb1⟩; obtain ⟨hc1, hf1, _⟩ := bcell hb1; have hz1 := hb1.size; (try simp at hz1); (try have hx10 : w.heap.size < w1.heap.size := (by omega)); (try have hx11 : w.heap.size + 1 < w1.heap.size := (by omega)); (try have hx12 : w.heap.size + 1 + 1 < w1.heap.size := (by omega)); (try have hx13 : w.heap.size + 1 + 1 + 1 < w1.heap.size := (by omega)))) | (go_at_call 71; ((with_reducible refine (ivd_v _ HY.out).mono ?_); rintro ee w2 ⟨rfl, hb2⟩; obtain ⟨hc2, hf2, _⟩ := bcell hb2; have hz2 := hb2.size; (try simp at hz2); (try have hx20 : w.heap.size < w2.heap.size := (by omega)); (try have hx21 : w.heap.size + 1 < w2.heap.size := (by omega)); (try have hx22 : w.heap.size + 1 + 1 < w2.heap.size := (by omega)); (try have hx23 : w.heap.size + 1 + 1 + 1 < w2.heap.size := (by omega)))) | (go_at_call 174; ((with_reducible refine (mul_i_o _ _ _ _ _ _ _ _ _ HX1.out HY1.out HV.out).mono ?_); rintro ee w3 ⟨rfl, hb3⟩; obtain ⟨hc3, hf3, _⟩ := bcell hb3; have hz3 := hb3.size; (try simp at hz3); (try have hx30 : w.heap.size < w3.heap.size := (by omega)); (try have hx31 : w.heap.size + 1 < w3.heap.size := (by omega)); (try have hx32 : w.heap.size + 1 + 1 < w3.heap.size := (by omega)); (try have hx33 : w.heap.size + 1 + 1 + 1 < w3.heap.size := (by omega)))) | go_in)
  refine bodyPost_ret (v := dt 0 0 0 0 0 false) (by first | (simp [results, Try.results134, go_sem, *]; done) | (simp (disch := (first | omega | (simp; done) | (simp; omega))) [results, Try.results134, go_sem, *]; done) | (simp only [results, Try.results134]; go_simp; done)) rfl ⟨rfl, ?_⟩
  repeat' (first | (with_reducible exact Below.refl _ _) | (with_reducible refine Below.alloc ?_ ?_ _) | (with_reducible refine Below.drew ?_) | (with_reducible refine Below.setCell ?_ ?_ _) | (with_reducible refine chain ?_ (by assumption) ?_) | omega | (simp; done) | (simp; omega))

set_option maxRecDepth 100000 in
set_option maxHeartbeats 4000000 in
theorem mulD_i_x (a b c d : Int) (e : Nat) (p q r s : Int) (f : Nat) (w : World) (hx : vd a b c d e = true) (hy : vd p q r s f = true) (hs : ¬ (e + f ≤ 60)) (hv : vr (m0 a b c d p q r s) (m1 a b c d p q r s) (m2 a b c d p q r s) (m3 a b c d p q r s) = true) :
    Calls Try.prog 134 #[dy a b c d (e : Int), dy p q r s (f : Int)] w fun ee w' => ee = .returned (dt 0 0 0 0 0 false) ∧ Below w.heap.size w w' := by
  have HX1 := hid (vd_iff.1 hx).1
  have HY1 := hid (vd_iff.1 hy).1
  have he1 : (e : Int) ≤ 60 := by have := (vd_iff.1 hx).2.1; omega
  have hf1 : (f : Int) ≤ 60 := by have := (vd_iff.1 hy).2.1; omega
  have hw : IntKind.i64.wrap ((e : Int) + (f : Int)) = ((e + f : Nat) : Int) := by rw [wr64 (by omega) (by omega)]; omega
  have HZ := hid (show (60 : Int) < (e : Int) + (f : Int) by omega)
  have HX := hid hx
  clear hx
  have HY := hid hy
  clear hy
  have HS := hid hs
  clear hs
  have HV := hid hv
  clear hv
  go_enter Try.func134, Try.ntmps134
  go_wp2_with (first | (go_at_call 71; ((with_reducible refine (ivd_v _ HX.out).mono ?_); rintro ee w1 ⟨rfl, hb1⟩; obtain ⟨hc1, hf1, _⟩ := bcell hb1; have hz1 := hb1.size; (try simp at hz1); (try have hx10 : w.heap.size < w1.heap.size := (by omega)); (try have hx11 : w.heap.size + 1 < w1.heap.size := (by omega)); (try have hx12 : w.heap.size + 1 + 1 < w1.heap.size := (by omega)); (try have hx13 : w.heap.size + 1 + 1 + 1 < w1.heap.size := (by omega)))) | (go_at_call 71; ((with_reducible refine (ivd_v _ HY.out).mono ?_); rintro ee w2 ⟨rfl, hb2⟩; obtain ⟨hc2, hf2, _⟩ := bcell hb2; have hz2 := hb2.size; (try simp at hz2); (try have hx20 : w.heap.size < w2.heap.size := (by omega)); (try have hx21 : w.heap.size + 1 < w2.heap.size := (by omega)); (try have hx22 : w.heap.size + 1 + 1 < w2.heap.size := (by omega)); (try have hx23 : w.heap.size + 1 + 1 + 1 < w2.heap.size := (by omega)))) | (go_at_call 174; ((with_reducible refine (mul_i_t _ _ _ _ _ _ _ _ _ HX1.out HY1.out HV.out).mono ?_); rintro ee w3 ⟨rfl, hb3⟩; obtain ⟨hc3, hf3, _⟩ := bcell hb3; have hz3 := hb3.size; (try simp at hz3); (try have hx30 : w.heap.size < w3.heap.size := (by omega)); (try have hx31 : w.heap.size + 1 < w3.heap.size := (by omega)); (try have hx32 : w.heap.size + 1 + 1 < w3.heap.size := (by omega)); (try have hx33 : w.heap.size + 1 + 1 + 1 < w3.heap.size := (by omega)))) | (go_at_call 130; ((with_reducible refine (dof_m _ _ _ _ _ _ HV.out HZ.out).mono ?_); rintro ee w4 ⟨rfl, hb4⟩; obtain ⟨hc4, hf4, _⟩ := bcell hb4; have hz4 := hb4.size; (try simp at hz4); (try have hx40 : w.heap.size < w4.heap.size := (by omega)); (try have hx41 : w.heap.size + 1 < w4.heap.size := (by omega)); (try have hx42 : w.heap.size + 1 + 1 < w4.heap.size := (by omega)); (try have hx43 : w.heap.size + 1 + 1 + 1 < w4.heap.size := (by omega)))) | go_in)
  refine bodyPost_ret (v := dt 0 0 0 0 0 false) (by first | (simp [results, Try.results134, go_sem, *]; done) | (simp (disch := (first | omega | (simp; done) | (simp; omega))) [results, Try.results134, go_sem, *]; done) | (simp only [results, Try.results134]; go_simp; done)) rfl ⟨rfl, ?_⟩
  repeat' (first | (with_reducible exact Below.refl _ _) | (with_reducible refine Below.alloc ?_ ?_ _) | (with_reducible refine Below.drew ?_) | (with_reducible refine Below.setCell ?_ ?_ _) | (with_reducible refine chain ?_ (by assumption) ?_) | omega | (simp; done) | (simp; omega))

end Go.Proofs.Ytofclfgaekjonaa
