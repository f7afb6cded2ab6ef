/- Contracts of NormSquare and its model. -/
import Derived.Test.YtnjckeadcbfogaaZp13
import Derived.Test.YtnjckeadcbfogaaZp8
import Derived.Deep.LoopGhost
import Derived.Deep.RegionHeld3
import Derived.Deep.MidRow
import Derived.Deep.DeepCutAuto
namespace Go.Proofs.Ytnjckeadcbfogaa
open Go.RowKit RM
set_option linter.unusedVariables false
set_option linter.unusedSimpArgs false
attribute [local irreducible] World.setCell

set_option maxRecDepth 100000 in
set_option maxHeartbeats 8000000 in
theorem ns_s_y (a b c d : Int) (e : Nat) (L M N O : Int) (E : Nat) (w : World) (hx : vd a b c d e = true) (hm : ∀ (g : Nat) (w : World), w.cell? ⟨g, 0, none⟩ = some (.bool false) → w.frozen? ⟨g, 0, none⟩ = false → Calls Try.prog 109 #[.pointer (some ⟨g, 0, none⟩), dy a b c d (e : Int), dy a (-d) (-c) (-b) (e : Int)] w fun ee w' => ee = .returned (dy L M N O E) ∧ Below w.heap.size (w.setCell ⟨g, 0, none⟩ (.bool false)) w') :
    Calls Try.prog 104 #[dy a b c d (e : Int)] w fun ee w' => ee = .returned (dt L M N O E true) ∧ Below w.heap.size w w' := by
  have HX := hid hx
  have HX1 := hid (vd_iff.1 hx).1
  clear hx
  have HM := hid hm
  clear hm
  go_enter Try.func104, Try.ntmps104
  go_upto_region 1 with (fail)
  have hC0 : C5 ((w.alloc (.cells #[.int .i64 a, .int .i64 b, .int .i64 c, .int .i64 d, .int .i64 (e : Int)] 59)).alloc (.cells #[.int .i64 0, .int .i64 0, .int .i64 0, .int .i64 0, .int .i64 0] 59)) (w.heap.size + 1) 0 0 0 0 0 := ⟨by (first | rfl | assumption | (go_simp; done) | (simp (disch := (first | omega | (simp; done) | (simp; omega))) [go_sem, *]; done)), by (first | rfl | assumption | (go_simp; done) | (simp (disch := (first | omega | (simp; done) | (simp; omega))) [go_sem, *]; done)), by (first | rfl | assumption | (go_simp; done) | (simp (disch := (first | omega | (simp; done) | (simp; omega))) [go_sem, *]; done)), by (first | rfl | assumption | (go_simp; done) | (simp (disch := (first | omega | (simp; done) | (simp; omega))) [go_sem, *]; done)), by (first | rfl | assumption | (go_simp; done) | (simp (disch := (first | omega | (simp; done) | (simp; omega))) [go_sem, *]; done)), by (first | rfl | assumption | (go_simp; done) | (simp (disch := (first | omega | (simp; done) | (simp; omega))) [go_sem, *]; done)), by (first | rfl | assumption | (go_simp; done) | (simp (disch := (first | omega | (simp; done) | (simp; omega))) [go_sem, *]; done)), by (first | rfl | assumption | (go_simp; done) | (simp (disch := (first | omega | (simp; done) | (simp; omega))) [go_sem, *]; done)), by (first | rfl | assumption | (go_simp; done) | (simp (disch := (first | omega | (simp; done) | (simp; omega))) [go_sem, *]; done)), by (first | rfl | assumption | (go_simp; done) | (simp (disch := (first | omega | (simp; done) | (simp; omega))) [go_sem, *]; done))⟩
  have u0 : ((w.alloc (.cells #[.int .i64 a, .int .i64 b, .int .i64 c, .int .i64 d, .int .i64 (e : Int)] 59)).alloc (.cells #[.int .i64 0, .int .i64 0, .int .i64 0, .int .i64 0, .int .i64 0] 59)).cell? ⟨w.heap.size, 0, none⟩ = some (.int .i64 a) := by go_simp
  have u1 : ((w.alloc (.cells #[.int .i64 a, .int .i64 b, .int .i64 c, .int .i64 d, .int .i64 (e : Int)] 59)).alloc (.cells #[.int .i64 0, .int .i64 0, .int .i64 0, .int .i64 0, .int .i64 0] 59)).cell? ⟨w.heap.size, 1, none⟩ = some (.int .i64 b) := by go_simp
  have u2 : ((w.alloc (.cells #[.int .i64 a, .int .i64 b, .int .i64 c, .int .i64 d, .int .i64 (e : Int)] 59)).alloc (.cells #[.int .i64 0, .int .i64 0, .int .i64 0, .int .i64 0, .int .i64 0] 59)).cell? ⟨w.heap.size, 2, none⟩ = some (.int .i64 c) := by go_simp
  have u3 : ((w.alloc (.cells #[.int .i64 a, .int .i64 b, .int .i64 c, .int .i64 d, .int .i64 (e : Int)] 59)).alloc (.cells #[.int .i64 0, .int .i64 0, .int .i64 0, .int .i64 0, .int .i64 0] 59)).cell? ⟨w.heap.size, 3, none⟩ = some (.int .i64 d) := by go_simp
  have u4 : ((w.alloc (.cells #[.int .i64 a, .int .i64 b, .int .i64 c, .int .i64 d, .int .i64 (e : Int)] 59)).alloc (.cells #[.int .i64 0, .int .i64 0, .int .i64 0, .int .i64 0, .int .i64 0] 59)).cell? ⟨w.heap.size, 4, none⟩ = some (.int .i64 (e : Int)) := by go_simp
  go_upto_region 4 with (first | (go_at_call 142; ((with_reducible refine (g2_t _ HX.out).mono ?_); rintro ee w1 ⟨rfl, hb1⟩; obtain ⟨hc1, hf1, _⟩ := bcell hb1; have hz1 := hb1.size; (try simp at hz1); (try have hx10 : w.heap.size < w1.heap.size := (by omega)); (try have hx11 : w.heap.size + 1 < w1.heap.size := (by omega)); (try have hx12 : w.heap.size + 1 + 1 < w1.heap.size := (by omega)); (try have hx13 : w.heap.size + 1 + 1 + 1 < w1.heap.size := (by omega)))))
  have hW1 : (w1.alloc (.cells #[.bool false] 95)).heap.size = w1.heap.size + 1 := by simp
  have v0 := kc hb1 u0
  have v1 := kc hb1 u1
  have v2 := kc hb1 u2
  have v3 := kc hb1 u3
  have v4 := kc hb1 u4
  have hC1 := (hC0.mono hb1).al (o := .cells #[.bool false] 95)
  have hBv : Below w.heap.size w (w1.alloc (.cells #[.bool false] 95)) := by (repeat' (first | (with_reducible assumption) | (with_reducible exact Below.refl _ _) | (with_reducible refine Below.alloc ?_ ?_ _) | (with_reducible refine Below.drew ?_) | (with_reducible refine both ?_ _ _ ?_ _) | (with_reducible refine Below.setCell ?_ ?_ _) | (with_reducible refine chain2 ?_ (by with_reducible assumption) ?_) | (with_reducible refine chain ?_ (by with_reducible assumption) ?_) | omega | (simp; done) | (simp; omega)))
  have hz1b : w.heap.size + 1 < w1.heap.size := by omega
  generalize hW : w1.alloc (.cells #[.bool false] 95) = W at *
  have x0 : W.cell? ⟨w.heap.size, 0, none⟩ = some (.int .i64 a) := by subst hW; exact kal v0
  have x1 : W.cell? ⟨w.heap.size, 1, none⟩ = some (.int .i64 b) := by subst hW; exact kal v1
  have x2 : W.cell? ⟨w.heap.size, 2, none⟩ = some (.int .i64 c) := by subst hW; exact kal v2
  have x3 : W.cell? ⟨w.heap.size, 3, none⟩ = some (.int .i64 d) := by subst hW; exact kal v3
  have x4 : W.cell? ⟨w.heap.size, 4, none⟩ = some (.int .i64 (e : Int)) := by subst hW; exact kal v4
  have gW : W.cell? ⟨w1.heap.size, 0, none⟩ = some (.bool false) := by subst hW; go_simp
  have gfW : W.frozen? ⟨w1.heap.size, 0, none⟩ = false := by subst hW; go_simp
  have hC1d := hC1.drew
  have gWd : W.drew.cell? ⟨w1.heap.size, 0, none⟩ = some (.bool false) := gW
  have gfWd : W.drew.frozen? ⟨w1.heap.size, 0, none⟩ = false := gfW
  have hdW : W.drew.heap.size = W.heap.size := rfl
  generalize hG : w1.heap.size = G at *
  clear hW hc1 hf1 hb1 u0 u1 u2 u3 u4 v0 v1 v2 v3 v4
  have y0 : W.drew.cell? ⟨w.heap.size, 0, none⟩ = some (.int .i64 a) := x0
  have y1 : W.drew.cell? ⟨w.heap.size, 1, none⟩ = some (.int .i64 b) := x1
  have y2 : W.drew.cell? ⟨w.heap.size, 2, none⟩ = some (.int .i64 c) := x2
  have y3 : W.drew.cell? ⟨w.heap.size, 3, none⟩ = some (.int .i64 d) := x3
  have y4 : W.drew.cell? ⟨w.heap.size, 4, none⟩ = some (.int .i64 (e : Int)) := x4
  go_region_held3 (fun w' => w'.cell? ⟨w.heap.size, 0, none⟩ = some (.int .i64 a) ∧ w'.cell? ⟨w.heap.size, 1, none⟩ = some (.int .i64 b) ∧ w'.cell? ⟨w.heap.size, 2, none⟩ = some (.int .i64 c) ∧ w'.cell? ⟨w.heap.size, 3, none⟩ = some (.int .i64 d) ∧ w'.cell? ⟨w.heap.size, 4, none⟩ = some (.int .i64 (e : Int)))
    (first | (with_reducible exact ⟨y0, y1, y2, y3, y4⟩) | (go_split_ands; with_reducible exact ⟨kc hb2 (by with_reducible assumption), kc hb2 (by with_reducible assumption), kc hb2 (by with_reducible assumption), kc hb2 (by with_reducible assumption), kc hb2 (by with_reducible assumption)⟩) | (go_split_ands; with_reducible exact ⟨kcs hb3 (by omega) (by with_reducible assumption), kcs hb3 (by omega) (by with_reducible assumption), kcs hb3 (by omega) (by with_reducible assumption), kcs hb3 (by omega) (by with_reducible assumption), kcs hb3 (by omega) (by with_reducible assumption)⟩) | (go_split_ands; with_reducible exact ⟨kc hb4 (by with_reducible assumption), kc hb4 (by with_reducible assumption), kc hb4 (by with_reducible assumption), kc hb4 (by with_reducible assumption), kc hb4 (by with_reducible assumption)⟩) | (go_split_ands; with_reducible exact ⟨ks5 (by omega) (by with_reducible assumption), ks5 (by omega) (by with_reducible assumption), ks5 (by omega) (by with_reducible assumption), ks5 (by omega) (by with_reducible assumption), ks5 (by omega) (by with_reducible assumption)⟩))
    (first
      | (go_at_call 110; ((with_reducible refine (l2cj a b c d _ _ HX1.out).mono ?_); rintro ee w2 ⟨rfl, hb2⟩; obtain ⟨hc2, hf2, hz2⟩ := bcellB hb2; (try simp only [World.size_drew, World.size_alloc, World.size_setCell] at hz2); (first | (have ho2W : W.heap.size < w2.heap.size := (by omega)) | (have ho2W : W.heap.size ≤ w2.heap.size := (by omega)) | skip)))
      | (go_at_call 109; ((with_reducible refine (HM.out G _ (kc hb2 gWd) (kf hb2 gWd gfWd)).mono ?_); rintro ee w3 ⟨rfl, hb3⟩; obtain ⟨hc3, hf3, hz3⟩ := bcellB hb3; (try simp only [World.size_drew, World.size_alloc, World.size_setCell] at hz3); (first | (have ho3w2 : w2.heap.size < w3.heap.size := (by omega)) | (have ho3w2 : w2.heap.size ≤ w3.heap.size := (by omega)) | skip); have gc3 : w3.cell? ⟨G, 0, none⟩ = some (.bool false) := (by rw [hc3 _ _ (by omega)]; exact World.cell?_setCell_same _ _ _ (kc hb2 gWd))))
      | (go_at_call 111; ((with_reducible refine (out_t G _ _ _ _ _ _ gc3).mono ?_); rintro ee w4 ⟨rfl, hb4⟩; obtain ⟨hc4, hf4, hz4⟩ := bcellB hb4; (try simp only [World.size_drew, World.size_alloc, World.size_setCell] at hz4); (first | (have ho4w3 : w3.heap.size < w4.heap.size := (by omega)) | (have ho4w3 : w3.heap.size ≤ w4.heap.size := (by omega)) | skip); (first | (have ho4w2 : w2.heap.size < w4.heap.size := (by omega)) | (have ho4w2 : w2.heap.size ≤ w4.heap.size := (by omega)) | skip); have hC4 := ((hC1d.mono hb2).monos (by omega) hb3).mono hb4; obtain ⟨z0, z1, z2, z3, z4, z5, z6, z7, z8, z9⟩ := hC4; have hzz := World.block_lt_of_cell? w4 _ z0)))
  all_goals (go_wp2_with fail; refine bodyPost_ret (v := dt L M N O E true) (by first | (simp [results, Try.results104, go_sem, *]; done) | (simp (disch := (first | omega | (simp; done) | (simp; omega))) [results, Try.results104, go_sem, *]; done) | (simp only [results, Try.results104]; go_simp; done)) rfl ⟨rfl, ?_⟩)
  all_goals (repeat' (first | (with_reducible assumption) | (with_reducible exact Below.refl _ _) | (with_reducible refine Below.alloc ?_ ?_ _) | (with_reducible refine Below.drew ?_) | (with_reducible refine both ?_ _ _ ?_ _) | (with_reducible refine Below.setCell ?_ ?_ _) | (with_reducible refine chain2 ?_ (by with_reducible assumption) ?_) | (with_reducible refine chain ?_ (by with_reducible assumption) ?_) | omega | (simp; done) | (simp; omega)))

set_option maxRecDepth 100000 in
set_option maxHeartbeats 8000000 in
theorem ns_s_n (a b c d : Int) (e : Nat) (L M N O : Int) (E : Nat) (w : World) (hx : vd a b c d e = true) (hm : ∀ (g : Nat) (w : World), w.cell? ⟨g, 0, none⟩ = some (.bool false) → w.frozen? ⟨g, 0, none⟩ = false → Calls Try.prog 109 #[.pointer (some ⟨g, 0, none⟩), dy a b c d (e : Int), dy a (-d) (-c) (-b) (e : Int)] w fun ee w' => ee = .returned (dy L M N O E) ∧ Below w.heap.size (w.setCell ⟨g, 0, none⟩ (.bool true)) w') :
    Calls Try.prog 104 #[dy a b c d (e : Int)] w fun ee w' => ee = .returned (dt 0 0 0 0 0 false) ∧ Below w.heap.size w w' := by
  have HX := hid hx
  have HX1 := hid (vd_iff.1 hx).1
  clear hx
  have HM := hid hm
  clear hm
  go_enter Try.func104, Try.ntmps104
  go_upto_region 1 with (fail)
  have hC0 : C5 ((w.alloc (.cells #[.int .i64 a, .int .i64 b, .int .i64 c, .int .i64 d, .int .i64 (e : Int)] 59)).alloc (.cells #[.int .i64 0, .int .i64 0, .int .i64 0, .int .i64 0, .int .i64 0] 59)) (w.heap.size + 1) 0 0 0 0 0 := ⟨by (first | rfl | assumption | (go_simp; done) | (simp (disch := (first | omega | (simp; done) | (simp; omega))) [go_sem, *]; done)), by (first | rfl | assumption | (go_simp; done) | (simp (disch := (first | omega | (simp; done) | (simp; omega))) [go_sem, *]; done)), by (first | rfl | assumption | (go_simp; done) | (simp (disch := (first | omega | (simp; done) | (simp; omega))) [go_sem, *]; done)), by (first | rfl | assumption | (go_simp; done) | (simp (disch := (first | omega | (simp; done) | (simp; omega))) [go_sem, *]; done)), by (first | rfl | assumption | (go_simp; done) | (simp (disch := (first | omega | (simp; done) | (simp; omega))) [go_sem, *]; done)), by (first | rfl | assumption | (go_simp; done) | (simp (disch := (first | omega | (simp; done) | (simp; omega))) [go_sem, *]; done)), by (first | rfl | assumption | (go_simp; done) | (simp (disch := (first | omega | (simp; done) | (simp; omega))) [go_sem, *]; done)), by (first | rfl | assumption | (go_simp; done) | (simp (disch := (first | omega | (simp; done) | (simp; omega))) [go_sem, *]; done)), by (first | rfl | assumption | (go_simp; done) | (simp (disch := (first | omega | (simp; done) | (simp; omega))) [go_sem, *]; done)), by (first | rfl | assumption | (go_simp; done) | (simp (disch := (first | omega | (simp; done) | (simp; omega))) [go_sem, *]; done))⟩
  have u0 : ((w.alloc (.cells #[.int .i64 a, .int .i64 b, .int .i64 c, .int .i64 d, .int .i64 (e : Int)] 59)).alloc (.cells #[.int .i64 0, .int .i64 0, .int .i64 0, .int .i64 0, .int .i64 0] 59)).cell? ⟨w.heap.size, 0, none⟩ = some (.int .i64 a) := by go_simp
  have u1 : ((w.alloc (.cells #[.int .i64 a, .int .i64 b, .int .i64 c, .int .i64 d, .int .i64 (e : Int)] 59)).alloc (.cells #[.int .i64 0, .int .i64 0, .int .i64 0, .int .i64 0, .int .i64 0] 59)).cell? ⟨w.heap.size, 1, none⟩ = some (.int .i64 b) := by go_simp
  have u2 : ((w.alloc (.cells #[.int .i64 a, .int .i64 b, .int .i64 c, .int .i64 d, .int .i64 (e : Int)] 59)).alloc (.cells #[.int .i64 0, .int .i64 0, .int .i64 0, .int .i64 0, .int .i64 0] 59)).cell? ⟨w.heap.size, 2, none⟩ = some (.int .i64 c) := by go_simp
  have u3 : ((w.alloc (.cells #[.int .i64 a, .int .i64 b, .int .i64 c, .int .i64 d, .int .i64 (e : Int)] 59)).alloc (.cells #[.int .i64 0, .int .i64 0, .int .i64 0, .int .i64 0, .int .i64 0] 59)).cell? ⟨w.heap.size, 3, none⟩ = some (.int .i64 d) := by go_simp
  have u4 : ((w.alloc (.cells #[.int .i64 a, .int .i64 b, .int .i64 c, .int .i64 d, .int .i64 (e : Int)] 59)).alloc (.cells #[.int .i64 0, .int .i64 0, .int .i64 0, .int .i64 0, .int .i64 0] 59)).cell? ⟨w.heap.size, 4, none⟩ = some (.int .i64 (e : Int)) := by go_simp
  go_upto_region 4 with (first | (go_at_call 142; ((with_reducible refine (g2_t _ HX.out).mono ?_); rintro ee w1 ⟨rfl, hb1⟩; obtain ⟨hc1, hf1, _⟩ := bcell hb1; have hz1 := hb1.size; (try simp at hz1); (try have hx10 : w.heap.size < w1.heap.size := (by omega)); (try have hx11 : w.heap.size + 1 < w1.heap.size := (by omega)); (try have hx12 : w.heap.size + 1 + 1 < w1.heap.size := (by omega)); (try have hx13 : w.heap.size + 1 + 1 + 1 < w1.heap.size := (by omega)))))
  have hW1 : (w1.alloc (.cells #[.bool false] 95)).heap.size = w1.heap.size + 1 := by simp
  have v0 := kc hb1 u0
  have v1 := kc hb1 u1
  have v2 := kc hb1 u2
  have v3 := kc hb1 u3
  have v4 := kc hb1 u4
  have hC1 := (hC0.mono hb1).al (o := .cells #[.bool false] 95)
  have hBv : Below w.heap.size w (w1.alloc (.cells #[.bool false] 95)) := by (repeat' (first | (with_reducible assumption) | (with_reducible exact Below.refl _ _) | (with_reducible refine Below.alloc ?_ ?_ _) | (with_reducible refine Below.drew ?_) | (with_reducible refine both ?_ _ _ ?_ _) | (with_reducible refine Below.setCell ?_ ?_ _) | (with_reducible refine chain2 ?_ (by with_reducible assumption) ?_) | (with_reducible refine chain ?_ (by with_reducible assumption) ?_) | omega | (simp; done) | (simp; omega)))
  have hz1b : w.heap.size + 1 < w1.heap.size := by omega
  generalize hW : w1.alloc (.cells #[.bool false] 95) = W at *
  have x0 : W.cell? ⟨w.heap.size, 0, none⟩ = some (.int .i64 a) := by subst hW; exact kal v0
  have x1 : W.cell? ⟨w.heap.size, 1, none⟩ = some (.int .i64 b) := by subst hW; exact kal v1
  have x2 : W.cell? ⟨w.heap.size, 2, none⟩ = some (.int .i64 c) := by subst hW; exact kal v2
  have x3 : W.cell? ⟨w.heap.size, 3, none⟩ = some (.int .i64 d) := by subst hW; exact kal v3
  have x4 : W.cell? ⟨w.heap.size, 4, none⟩ = some (.int .i64 (e : Int)) := by subst hW; exact kal v4
  have gW : W.cell? ⟨w1.heap.size, 0, none⟩ = some (.bool false) := by subst hW; go_simp
  have gfW : W.frozen? ⟨w1.heap.size, 0, none⟩ = false := by subst hW; go_simp
  have hC1d := hC1.drew
  have gWd : W.drew.cell? ⟨w1.heap.size, 0, none⟩ = some (.bool false) := gW
  have gfWd : W.drew.frozen? ⟨w1.heap.size, 0, none⟩ = false := gfW
  have hdW : W.drew.heap.size = W.heap.size := rfl
  generalize hG : w1.heap.size = G at *
  clear hW hc1 hf1 hb1 u0 u1 u2 u3 u4 v0 v1 v2 v3 v4
  have y0 : W.drew.cell? ⟨w.heap.size, 0, none⟩ = some (.int .i64 a) := x0
  have y1 : W.drew.cell? ⟨w.heap.size, 1, none⟩ = some (.int .i64 b) := x1
  have y2 : W.drew.cell? ⟨w.heap.size, 2, none⟩ = some (.int .i64 c) := x2
  have y3 : W.drew.cell? ⟨w.heap.size, 3, none⟩ = some (.int .i64 d) := x3
  have y4 : W.drew.cell? ⟨w.heap.size, 4, none⟩ = some (.int .i64 (e : Int)) := x4
  go_region_held3 (fun w' => w'.cell? ⟨w.heap.size, 0, none⟩ = some (.int .i64 a) ∧ w'.cell? ⟨w.heap.size, 1, none⟩ = some (.int .i64 b) ∧ w'.cell? ⟨w.heap.size, 2, none⟩ = some (.int .i64 c) ∧ w'.cell? ⟨w.heap.size, 3, none⟩ = some (.int .i64 d) ∧ w'.cell? ⟨w.heap.size, 4, none⟩ = some (.int .i64 (e : Int)))
    (first | (with_reducible exact ⟨y0, y1, y2, y3, y4⟩) | (go_split_ands; with_reducible exact ⟨kc hb2 (by with_reducible assumption), kc hb2 (by with_reducible assumption), kc hb2 (by with_reducible assumption), kc hb2 (by with_reducible assumption), kc hb2 (by with_reducible assumption)⟩) | (go_split_ands; with_reducible exact ⟨kcs hb3 (by omega) (by with_reducible assumption), kcs hb3 (by omega) (by with_reducible assumption), kcs hb3 (by omega) (by with_reducible assumption), kcs hb3 (by omega) (by with_reducible assumption), kcs hb3 (by omega) (by with_reducible assumption)⟩) | (go_split_ands; with_reducible exact ⟨kc hb4 (by with_reducible assumption), kc hb4 (by with_reducible assumption), kc hb4 (by with_reducible assumption), kc hb4 (by with_reducible assumption), kc hb4 (by with_reducible assumption)⟩) | (go_split_ands; with_reducible exact ⟨ks5 (by omega) (by with_reducible assumption), ks5 (by omega) (by with_reducible assumption), ks5 (by omega) (by with_reducible assumption), ks5 (by omega) (by with_reducible assumption), ks5 (by omega) (by with_reducible assumption)⟩))
    (first
      | (go_at_call 110; ((with_reducible refine (l2cj a b c d _ _ HX1.out).mono ?_); rintro ee w2 ⟨rfl, hb2⟩; obtain ⟨hc2, hf2, hz2⟩ := bcellB hb2; (try simp only [World.size_drew, World.size_alloc, World.size_setCell] at hz2); (first | (have ho2W : W.heap.size < w2.heap.size := (by omega)) | (have ho2W : W.heap.size ≤ w2.heap.size := (by omega)) | skip)))
      | (go_at_call 109; ((with_reducible refine (HM.out G _ (kc hb2 gWd) (kf hb2 gWd gfWd)).mono ?_); rintro ee w3 ⟨rfl, hb3⟩; obtain ⟨hc3, hf3, hz3⟩ := bcellB hb3; (try simp only [World.size_drew, World.size_alloc, World.size_setCell] at hz3); (first | (have ho3w2 : w2.heap.size < w3.heap.size := (by omega)) | (have ho3w2 : w2.heap.size ≤ w3.heap.size := (by omega)) | skip); have gc3 : w3.cell? ⟨G, 0, none⟩ = some (.bool true) := (by rw [hc3 _ _ (by omega)]; exact World.cell?_setCell_same _ _ _ (kc hb2 gWd))))
      | (go_at_call 111; ((with_reducible refine (out_f G _ _ _ _ _ _ gc3).mono ?_); rintro ee w4 ⟨rfl, hb4⟩; obtain ⟨hc4, hf4, hz4⟩ := bcellB hb4; (try simp only [World.size_drew, World.size_alloc, World.size_setCell] at hz4); (first | (have ho4w3 : w3.heap.size < w4.heap.size := (by omega)) | (have ho4w3 : w3.heap.size ≤ w4.heap.size := (by omega)) | skip); (first | (have ho4w2 : w2.heap.size < w4.heap.size := (by omega)) | (have ho4w2 : w2.heap.size ≤ w4.heap.size := (by omega)) | skip); have hC4 := ((hC1d.mono hb2).monos (by omega) hb3).mono hb4; obtain ⟨z0, z1, z2, z3, z4, z5, z6, z7, z8, z9⟩ := hC4; have hzz := World.block_lt_of_cell? w4 _ z0)))
  all_goals (go_wp2_with fail; refine bodyPost_ret (v := dt 0 0 0 0 0 false) (by first | (simp [results, Try.results104, go_sem, *]; done) | (simp (disch := (first | omega | (simp; done) | (simp; omega))) [results, Try.results104, go_sem, *]; done) | (simp only [results, Try.results104]; go_simp; done)) rfl ⟨rfl, ?_⟩)
  all_goals (repeat' (first | (with_reducible assumption) | (with_reducible exact Below.refl _ _) | (with_reducible refine Below.alloc ?_ ?_ _) | (with_reducible refine Below.drew ?_) | (with_reducible refine both ?_ _ _ ?_ _) | (with_reducible refine Below.setCell ?_ ?_ _) | (with_reducible refine chain2 ?_ (by with_reducible assumption) ?_) | (with_reducible refine chain ?_ (by with_reducible assumption) ?_) | omega | (simp; done) | (simp; omega)))

set_option maxRecDepth 100000 in
set_option maxHeartbeats 4000000 in
theorem ns_s_f (a b c d e : Int) (w : World) (hx : vi a b c d e = false) :
    Calls Try.prog 104 #[dy a b c d e] w fun ee w' => ee = .returned (dt 0 0 0 0 0 false) ∧ Below w.heap.size w w' := by
  have HX := hid hx
  clear hx
  go_enter Try.func104, Try.ntmps104
  go_wp2_with (first | (go_at_call 142; ((with_reducible refine (g2_no _ HX.out).mono ?_); rintro ee w1 ⟨rfl, hb1⟩; obtain ⟨hc1, hf1, _⟩ := bcell hb1; have hz1 := hb1.size; (try simp at hz1); (try have hx10 : w.heap.size < w1.heap.size := (by omega)); (try have hx11 : w.heap.size + 1 < w1.heap.size := (by omega)); (try have hx12 : w.heap.size + 1 + 1 < w1.heap.size := (by omega)); (try have hx13 : w.heap.size + 1 + 1 + 1 < w1.heap.size := (by omega)))) | go_in)
  refine bodyPost_ret (v := dt 0 0 0 0 0 false) (by first | (simp [results, Try.results104, go_sem, *]; done) | (simp (disch := (first | omega | (simp; done) | (simp; omega))) [results, Try.results104, go_sem, *]; done) | (simp only [results, Try.results104]; go_simp; done)) rfl ⟨rfl, ?_⟩
  repeat' (first | (with_reducible exact Below.refl _ _) | (with_reducible refine Below.alloc ?_ ?_ _) | (with_reducible refine Below.drew ?_) | (with_reducible refine Below.setCell ?_ ?_ _) | (with_reducible refine chain ?_ (by assumption) ?_) | omega | (simp; done) | (simp; omega))
end Go.Proofs.Ytnjckeadcbfogaa
