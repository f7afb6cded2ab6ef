/- The walk of the law on CompareAbs, whatever its two contracts give. -/
import Derived.Test.YtefmglofnoinmaaCutD
import Derived.Deep.LoopGhost
import Derived.Test.YtefmglofnoinmaaHeldB
import Derived.Deep.RegionHeld3
import Derived.Deep.MidRow
import Derived.Deep.DeepCutAuto
namespace Go.Proofs.Ytefmglofnoinmaa
open Go.RowKit RM
set_option linter.unusedVariables false
set_option linter.unusedSimpArgs false
attribute [local irreducible] World.setCell

set_option maxRecDepth 100000 in
set_option maxHeartbeats 16000000 in
theorem lwCompareAbs (a b c d e p q r s t : Int) (u : Int) (ok : Bool) (hS : ∀ w : World, Calls Try.prog 60 #[dy a b c d e, dy p q r s t] w fun ee w' => ee = .returned (.tuple #[.int .i64 u, .bool ok]) ∧ Below w.heap.size w w') (hI : ∀ w : World, Calls Try.prog 39 #[dy a b c d e, dy p q r s t] w fun ee w' => ee = .returned (.tuple #[.int .i64 u, .bool ok]) ∧ Below w.heap.size w w') (w : World) :
    Calls Try.prog 16 #[dy a b c d e, dy p q r s t] w fun ee w' => ee = .returned (.bool true) ∧ Below w.heap.size w w' := by
  have HS := hid hS
  have HI := hid hI
  clear hS hI
  go_enter Try.func16, Try.ntmps16
  go_upto_region 1 with (fail)
  generalize hW : (w.alloc (.cells #[.int .i64 a, .int .i64 b, .int .i64 c, .int .i64 d, .int .i64 e] 50)).alloc (.cells #[.int .i64 p, .int .i64 q, .int .i64 r, .int .i64 s, .int .i64 t] 50) = W
  have x0 : W.cell? ⟨w.heap.size, 0, none⟩ = some (.int .i64 a) := by subst hW; go_simp
  have x1 : W.cell? ⟨w.heap.size, 1, none⟩ = some (.int .i64 b) := by subst hW; go_simp
  have x2 : W.cell? ⟨w.heap.size, 2, none⟩ = some (.int .i64 c) := by subst hW; go_simp
  have x3 : W.cell? ⟨w.heap.size, 3, none⟩ = some (.int .i64 d) := by subst hW; go_simp
  have x4 : W.cell? ⟨w.heap.size, 4, none⟩ = some (.int .i64 e) := by subst hW; go_simp
  have x5 : W.cell? ⟨w.heap.size + 1, 0, none⟩ = some (.int .i64 p) := by subst hW; go_simp
  have x6 : W.cell? ⟨w.heap.size + 1, 1, none⟩ = some (.int .i64 q) := by subst hW; go_simp
  have x7 : W.cell? ⟨w.heap.size + 1, 2, none⟩ = some (.int .i64 r) := by subst hW; go_simp
  have x8 : W.cell? ⟨w.heap.size + 1, 3, none⟩ = some (.int .i64 s) := by subst hW; go_simp
  have x9 : W.cell? ⟨w.heap.size + 1, 4, none⟩ = some (.int .i64 t) := by subst hW; go_simp
  have hs0 : w.heap.size < W.heap.size := by subst hW; simp; omega
  have hs1 : w.heap.size + 1 < W.heap.size := by subst hW; simp
  have hBW : Below w.heap.size w W := by subst hW; exact ((Below.refl _ _).alloc (Nat.le_refl _) _).alloc (by simp) _
  clear hW
  go_cut [5, 6] (fun s5 s6 wx => CutN w a b c d e p q r s t u ok s5 s6 wx)
  case first =>
    have y0 : W.drew.cell? ⟨w.heap.size, 0, none⟩ = some (.int .i64 a) := x0
    have y1 : W.drew.cell? ⟨w.heap.size, 1, none⟩ = some (.int .i64 b) := x1
    have y2 : W.drew.cell? ⟨w.heap.size, 2, none⟩ = some (.int .i64 c) := x2
    have y3 : W.drew.cell? ⟨w.heap.size, 3, none⟩ = some (.int .i64 d) := x3
    have y4 : W.drew.cell? ⟨w.heap.size, 4, none⟩ = some (.int .i64 e) := x4
    have y5 : W.drew.cell? ⟨w.heap.size + 1, 0, none⟩ = some (.int .i64 p) := x5
    have y6 : W.drew.cell? ⟨w.heap.size + 1, 1, none⟩ = some (.int .i64 q) := x6
    have y7 : W.drew.cell? ⟨w.heap.size + 1, 2, none⟩ = some (.int .i64 r) := x7
    have y8 : W.drew.cell? ⟨w.heap.size + 1, 3, none⟩ = some (.int .i64 s) := x8
    have y9 : W.drew.cell? ⟨w.heap.size + 1, 4, none⟩ = some (.int .i64 t) := x9
    go_region_held3 (fun w' => w'.cell? ⟨w.heap.size, 0, none⟩ = some (.int .i64 a) ∧ w'.cell? ⟨w.heap.size, 1, none⟩ = some (.int .i64 b) ∧ w'.cell? ⟨w.heap.size, 2, none⟩ = some (.int .i64 c) ∧ w'.cell? ⟨w.heap.size, 3, none⟩ = some (.int .i64 d) ∧ w'.cell? ⟨w.heap.size, 4, none⟩ = some (.int .i64 e) ∧ w'.cell? ⟨w.heap.size + 1, 0, none⟩ = some (.int .i64 p) ∧ w'.cell? ⟨w.heap.size + 1, 1, none⟩ = some (.int .i64 q) ∧ w'.cell? ⟨w.heap.size + 1, 2, none⟩ = some (.int .i64 r) ∧ w'.cell? ⟨w.heap.size + 1, 3, none⟩ = some (.int .i64 s) ∧ w'.cell? ⟨w.heap.size + 1, 4, none⟩ = some (.int .i64 t))
      (first | (with_reducible exact ⟨y0, y1, y2, y3, y4, y5, y6, y7, y8, y9⟩) | (go_split_ands; with_reducible exact ⟨kc hb4 (by with_reducible assumption), kc hb4 (by with_reducible assumption), kc hb4 (by with_reducible assumption), kc hb4 (by with_reducible assumption), kc hb4 (by with_reducible assumption), kc hb4 (by with_reducible assumption), kc hb4 (by with_reducible assumption), kc hb4 (by with_reducible assumption), kc hb4 (by with_reducible assumption), kc hb4 (by with_reducible assumption)⟩) | (go_split_ands; with_reducible exact ⟨kc hb5 (by with_reducible assumption), kc hb5 (by with_reducible assumption), kc hb5 (by with_reducible assumption), kc hb5 (by with_reducible assumption), kc hb5 (by with_reducible assumption), kc hb5 (by with_reducible assumption), kc hb5 (by with_reducible assumption), kc hb5 (by with_reducible assumption), kc hb5 (by with_reducible assumption), kc hb5 (by with_reducible assumption)⟩) | (go_split_ands; with_reducible exact ⟨kc hb3 (by with_reducible assumption), kc hb3 (by with_reducible assumption), kc hb3 (by with_reducible assumption), kc hb3 (by with_reducible assumption), kc hb3 (by with_reducible assumption), kc hb3 (by with_reducible assumption), kc hb3 (by with_reducible assumption), kc hb3 (by with_reducible assumption), kc hb3 (by with_reducible assumption), kc hb3 (by with_reducible assumption)⟩))
      (first
        | (go_at_call 47; ((with_reducible refine (td a b c d e _).mono ?_); rintro ee w3 ⟨rfl, hb3⟩; obtain ⟨hc3, hf3, hz3⟩ := bcellB hb3; (try simp only [World.size_drew, World.size_alloc, World.size_setCell] at hz3); (first | (have ho3W : W.heap.size < w3.heap.size := (by omega)) | (have ho3W : W.heap.size ≤ w3.heap.size := (by omega)) | skip)))
        | (go_at_call 47; ((with_reducible refine (td p q r s t _).mono ?_); rintro ee w5 ⟨rfl, hb5⟩; obtain ⟨hc5, hf5, hz5⟩ := bcellB hb5; (try simp only [World.size_drew, World.size_alloc, World.size_setCell] at hz5); (first | (have ho5W : W.heap.size < w5.heap.size := (by omega)) | (have ho5W : W.heap.size ≤ w5.heap.size := (by omega)) | skip); (first | (have ho5w3 : w3.heap.size < w5.heap.size := (by omega)) | (have ho5w3 : w3.heap.size ≤ w5.heap.size := (by omega)) | skip)))
        | (go_at_call 60; ((with_reducible refine (HS.out _).mono ?_); rintro ee w4 ⟨rfl, hb4⟩; obtain ⟨hc4, hf4, hz4⟩ := bcellB hb4; (try simp only [World.size_drew, World.size_alloc, World.size_setCell] at hz4); (first | (have ho4W : W.heap.size < w4.heap.size := (by omega)) | (have ho4W : W.heap.size ≤ w4.heap.size := (by omega)) | skip); (first | (have ho4w3 : w3.heap.size < w4.heap.size := (by omega)) | (have ho4w3 : w3.heap.size ≤ w4.heap.size := (by omega)) | skip); (first | (have ho4w5 : w5.heap.size < w4.heap.size := (by omega)) | (have ho4w5 : w5.heap.size ≤ w4.heap.size := (by omega)) | skip))))
    all_goals (go_wp2_with fail; go_meet)
    all_goals go_split_ands
    all_goals (refine ⟨rfl, rfl, ⟨(by with_reducible assumption), (by with_reducible assumption), (by with_reducible assumption), (by with_reducible assumption), (by with_reducible assumption)⟩, ⟨(by with_reducible assumption), (by with_reducible assumption), (by with_reducible assumption), (by with_reducible assumption), (by with_reducible assumption)⟩, ?_⟩)
    all_goals (first | (go_simp; done) | (repeat' (first | (with_reducible assumption) | (with_reducible exact Below.refl _ _) | (with_reducible refine Below.alloc ?_ ?_ _) | (with_reducible refine Below.drew ?_) | (with_reducible refine both ?_ _ _ ?_ _) | (with_reducible refine Below.setCell ?_ ?_ _) | (with_reducible refine chain2 ?_ (by with_reducible assumption) ?_) | (with_reducible refine chain ?_ (by with_reducible assumption) ?_) | omega | (simp; done) | (simp; omega))))
  case rest =>
    clear x0 x1 x2 x3 x4 x5 x6 x7 x8 x9 hs0 hs1 hBW
    obtain ⟨rfl, rfl, ⟨x0, x1, x2, x3, x4⟩, ⟨x5, x6, x7, x8, x9⟩, hBx⟩ := hcut
    have hs0 : w.heap.size < wc.heap.size := World.block_lt_of_cell? wc _ x0
    have hs1 : w.heap.size + 1 < wc.heap.size := World.block_lt_of_cell? wc _ x5
    go_wp2_with fail
    have y0 : wc.drew.cell? ⟨w.heap.size, 0, none⟩ = some (.int .i64 a) := x0
    have y1 : wc.drew.cell? ⟨w.heap.size, 1, none⟩ = some (.int .i64 b) := x1
    have y2 : wc.drew.cell? ⟨w.heap.size, 2, none⟩ = some (.int .i64 c) := x2
    have y3 : wc.drew.cell? ⟨w.heap.size, 3, none⟩ = some (.int .i64 d) := x3
    have y4 : wc.drew.cell? ⟨w.heap.size, 4, none⟩ = some (.int .i64 e) := x4
    have y5 : wc.drew.cell? ⟨w.heap.size + 1, 0, none⟩ = some (.int .i64 p) := x5
    have y6 : wc.drew.cell? ⟨w.heap.size + 1, 1, none⟩ = some (.int .i64 q) := x6
    have y7 : wc.drew.cell? ⟨w.heap.size + 1, 2, none⟩ = some (.int .i64 r) := x7
    have y8 : wc.drew.cell? ⟨w.heap.size + 1, 3, none⟩ = some (.int .i64 s) := x8
    have y9 : wc.drew.cell? ⟨w.heap.size + 1, 4, none⟩ = some (.int .i64 t) := x9
    go_region_held3 (fun w' => w'.cell? ⟨w.heap.size, 0, none⟩ = some (.int .i64 a) ∧ w'.cell? ⟨w.heap.size, 1, none⟩ = some (.int .i64 b) ∧ w'.cell? ⟨w.heap.size, 2, none⟩ = some (.int .i64 c) ∧ w'.cell? ⟨w.heap.size, 3, none⟩ = some (.int .i64 d) ∧ w'.cell? ⟨w.heap.size, 4, none⟩ = some (.int .i64 e) ∧ w'.cell? ⟨w.heap.size + 1, 0, none⟩ = some (.int .i64 p) ∧ w'.cell? ⟨w.heap.size + 1, 1, none⟩ = some (.int .i64 q) ∧ w'.cell? ⟨w.heap.size + 1, 2, none⟩ = some (.int .i64 r) ∧ w'.cell? ⟨w.heap.size + 1, 3, none⟩ = some (.int .i64 s) ∧ w'.cell? ⟨w.heap.size + 1, 4, none⟩ = some (.int .i64 t))
      (first | (with_reducible exact ⟨y0, y1, y2, y3, y4, y5, y6, y7, y8, y9⟩) | (go_split_ands; with_reducible exact ⟨kc hb4 (by with_reducible assumption), kc hb4 (by with_reducible assumption), kc hb4 (by with_reducible assumption), kc hb4 (by with_reducible assumption), kc hb4 (by with_reducible assumption), kc hb4 (by with_reducible assumption), kc hb4 (by with_reducible assumption), kc hb4 (by with_reducible assumption), kc hb4 (by with_reducible assumption), kc hb4 (by with_reducible assumption)⟩) | (go_split_ands; with_reducible exact ⟨kc hb5 (by with_reducible assumption), kc hb5 (by with_reducible assumption), kc hb5 (by with_reducible assumption), kc hb5 (by with_reducible assumption), kc hb5 (by with_reducible assumption), kc hb5 (by with_reducible assumption), kc hb5 (by with_reducible assumption), kc hb5 (by with_reducible assumption), kc hb5 (by with_reducible assumption), kc hb5 (by with_reducible assumption)⟩) | (go_split_ands; with_reducible exact ⟨kc hb3 (by with_reducible assumption), kc hb3 (by with_reducible assumption), kc hb3 (by with_reducible assumption), kc hb3 (by with_reducible assumption), kc hb3 (by with_reducible assumption), kc hb3 (by with_reducible assumption), kc hb3 (by with_reducible assumption), kc hb3 (by with_reducible assumption), kc hb3 (by with_reducible assumption), kc hb3 (by with_reducible assumption)⟩))
      (first
        | (go_at_call 47; ((with_reducible refine (td a b c d e _).mono ?_); rintro ee w3 ⟨rfl, hb3⟩; obtain ⟨hc3, hf3, hz3⟩ := bcellB hb3; (try simp only [World.size_drew, World.size_alloc, World.size_setCell] at hz3); (first | (have ho3wc : wc.heap.size < w3.heap.size := (by omega)) | (have ho3wc : wc.heap.size ≤ w3.heap.size := (by omega)) | skip)))
        | (go_at_call 47; ((with_reducible refine (td p q r s t _).mono ?_); rintro ee w5 ⟨rfl, hb5⟩; obtain ⟨hc5, hf5, hz5⟩ := bcellB hb5; (try simp only [World.size_drew, World.size_alloc, World.size_setCell] at hz5); (first | (have ho5wc : wc.heap.size < w5.heap.size := (by omega)) | (have ho5wc : wc.heap.size ≤ w5.heap.size := (by omega)) | skip); (first | (have ho5w3 : w3.heap.size < w5.heap.size := (by omega)) | (have ho5w3 : w3.heap.size ≤ w5.heap.size := (by omega)) | skip)))
        | (go_at_call 39; ((with_reducible refine (HI.out _).mono ?_); rintro ee w4 ⟨rfl, hb4⟩; obtain ⟨hc4, hf4, hz4⟩ := bcellB hb4; (try simp only [World.size_drew, World.size_alloc, World.size_setCell] at hz4); (first | (have ho4wc : wc.heap.size < w4.heap.size := (by omega)) | (have ho4wc : wc.heap.size ≤ w4.heap.size := (by omega)) | skip); (first | (have ho4w3 : w3.heap.size < w4.heap.size := (by omega)) | (have ho4w3 : w3.heap.size ≤ w4.heap.size := (by omega)) | skip); (first | (have ho4w5 : w5.heap.size < w4.heap.size := (by omega)) | (have ho4w5 : w5.heap.size ≤ w4.heap.size := (by omega)) | skip))))
    all_goals go_split_ands
    all_goals (go_wp2_with fail)
    all_goals (go_ret; refine ⟨rfl, ?_⟩)
    all_goals (repeat' (first | (with_reducible assumption) | (with_reducible exact Below.refl _ _) | (with_reducible refine Below.alloc ?_ ?_ _) | (with_reducible refine Below.drew ?_) | (with_reducible refine both ?_ _ _ ?_ _) | (with_reducible refine Below.setCell ?_ ?_ _) | (with_reducible refine chain2 ?_ (by with_reducible assumption) ?_) | (with_reducible refine chain ?_ (by with_reducible assumption) ?_) | omega | (simp; done) | (simp; omega)))
end Go.Proofs.Ytefmglofnoinmaa
