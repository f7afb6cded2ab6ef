/- Commute: the walk of the law; the law at all arguments. -/
import Derived.Test.YtgcligmpdlffoaaPd7
import Derived.Deep.RegionHeld3
import Derived.Deep.DeepCutAuto
namespace Go.Proofs.Ytgcligmpdlffoaa.C4
open Go.RowKit
set_option linter.unusedVariables false
set_option linter.unusedSimpArgs false
attribute [local irreducible] World.setCell

set_option maxRecDepth 100000 in
set_option maxHeartbeats 16000000 in
theorem lwCommute {i0 : Int} {x1 : PauliV} {x2 : PauliV} {r0 : Bool} {r1 : Bool} {w : World} (hS : ∀ (w : World), Calls Try.prog 32 #[.int .i64 i0, x1.v, x2.v] w fun ee w' => ee = .returned (.tuple #[.bool r0, .bool r1]) ∧ Below w.heap.size w w') (hI : ∀ (w : World), Calls Try.prog 33 #[.int .i64 i0, x1.v, x2.v] w fun ee w' => ee = .returned (.tuple #[.bool r0, .bool r1]) ∧ Below w.heap.size w w') :
    Calls Try.prog 8 #[.int .i64 i0, x1.v, x2.v] w fun ee w' => ee = .returned (.bool true) ∧ Below w.heap.size w w' := by
  have HS := lay hS
  have HI := lay hI
  clear hS hI
  go_enter Try.func8, Try.ntmps8
  go_upto_region 1 with (fail)
  obtain ⟨w1, hW⟩ : ∃ W : World, W = ((w.alloc (.cells #[.int .i64 x1.f0, .int .i64 x1.f1, .int .i64 x1.f2] 43)).alloc (.cells #[.int .i64 x2.f0, .int .i64 x2.f1, .int .i64 x2.f2] 43)) := ⟨_, rfl⟩
  have hB1 : Below w.heap.size w w1 := by rw [hW]; (repeat' (first | (with_reducible exact Below.refl _ _) | (with_reducible assumption) | (with_reducible refine Below.alloc ?_ ?_ _) | (with_reducible refine Below.drew ?_) | (with_reducible refine bdN ?_ _) | (with_reducible refine Below.setCell ?_ ?_ _) | (with_reducible refine chn ?_ (by assumption) ?_) | omega | (simp; done) | (simp; omega)))
  have XB0 : Bb w1 (w.heap.size) 43 #[.int .i64 x1.f0, .int .i64 x1.f1, .int .i64 x1.f2] := by rw [hW]; (repeat' (first | (with_reducible assumption) | (refine Bb.new (by first | (with_reducible rfl) | (simp; done))) | (with_reducible refine Bb.alloc ?_ _) | (with_reducible refine Bb.drew ?_) | (with_reducible refine Bb.drewN ?_ _) | (with_reducible refine Bb.mono ?_ (by assumption)) | (with_reducible refine Bb.far ?_ (by (try simp only [World.size_alloc, World.size_drew]); omega)) | (with_reducible refine Bb.set ?_ rfl) | (with_reducible refine Bb.grown ?_ (by assumption) (by assumption))))
  have XB1 : Bb w1 (w.heap.size + 1) 43 #[.int .i64 x2.f0, .int .i64 x2.f1, .int .i64 x2.f2] := by rw [hW]; (repeat' (first | (with_reducible assumption) | (refine Bb.new (by first | (with_reducible rfl) | (simp; done))) | (with_reducible refine Bb.alloc ?_ _) | (with_reducible refine Bb.drew ?_) | (with_reducible refine Bb.drewN ?_ _) | (with_reducible refine Bb.mono ?_ (by assumption)) | (with_reducible refine Bb.far ?_ (by (try simp only [World.size_alloc, World.size_drew]); omega)) | (with_reducible refine Bb.set ?_ rfl) | (with_reducible refine Bb.grown ?_ (by assumption) (by assumption))))
  have hz1 : w.heap.size + 2 ≤ w1.heap.size := by rw [hW]; simp
  rw [← hW]
  clear hW
  have k1_0_0 : w1.cell? ⟨w.heap.size, 0, none⟩ = some (.int .i64 x1.f0) := XB0.c 0 rfl
  have k1_0_1 : w1.cell? ⟨w.heap.size, 1, none⟩ = some (.int .i64 x1.f1) := XB0.c 1 rfl
  have k1_0_2 : w1.cell? ⟨w.heap.size, 2, none⟩ = some (.int .i64 x1.f2) := XB0.c 2 rfl
  clear XB0
  have k1_1_0 : w1.cell? ⟨w.heap.size + 1, 0, none⟩ = some (.int .i64 x2.f0) := XB1.c 0 rfl
  have k1_1_1 : w1.cell? ⟨w.heap.size + 1, 1, none⟩ = some (.int .i64 x2.f1) := XB1.c 1 rfl
  have k1_1_2 : w1.cell? ⟨w.heap.size + 1, 2, none⟩ = some (.int .i64 x2.f2) := XB1.c 2 rfl
  clear XB1
  have bl1_0 : w.heap.size < w1.heap.size := World.block_lt_of_cell? _ _ k1_0_0
  have bl1_1 : w.heap.size + 1 < w1.heap.size := World.block_lt_of_cell? _ _ k1_1_0
  go_wp2_with (fail)
  go_cut [7, 8] (fun s7 s8 wx => (s7 = .bool r0 ∧ s8 = .bool r1) ∧ (wx.cell? ⟨w.heap.size, 0, none⟩ = some (.int .i64 x1.f0) ∧ wx.cell? ⟨w.heap.size, 1, none⟩ = some (.int .i64 x1.f1) ∧ wx.cell? ⟨w.heap.size, 2, none⟩ = some (.int .i64 x1.f2) ∧ wx.cell? ⟨w.heap.size + 1, 0, none⟩ = some (.int .i64 x2.f0) ∧ wx.cell? ⟨w.heap.size + 1, 1, none⟩ = some (.int .i64 x2.f1) ∧ wx.cell? ⟨w.heap.size + 1, 2, none⟩ = some (.int .i64 x2.f2) ∧ w1.heap.size ≤ wx.heap.size ∧ Below w.heap.size w wx))
  case first =>
    have yk1_0_0 : w1.drew.cell? ⟨w.heap.size, 0, none⟩ = some (.int .i64 x1.f0) := k1_0_0
    have yk1_0_1 : w1.drew.cell? ⟨w.heap.size, 1, none⟩ = some (.int .i64 x1.f1) := k1_0_1
    have yk1_0_2 : w1.drew.cell? ⟨w.heap.size, 2, none⟩ = some (.int .i64 x1.f2) := k1_0_2
    have yk1_1_0 : w1.drew.cell? ⟨w.heap.size + 1, 0, none⟩ = some (.int .i64 x2.f0) := k1_1_0
    have yk1_1_1 : w1.drew.cell? ⟨w.heap.size + 1, 1, none⟩ = some (.int .i64 x2.f1) := k1_1_1
    have yk1_1_2 : w1.drew.cell? ⟨w.heap.size + 1, 2, none⟩ = some (.int .i64 x2.f2) := k1_1_2
    have hBz := hB1.size
    go_region_held3 (fun w' => w'.cell? ⟨w.heap.size, 0, none⟩ = some (.int .i64 x1.f0) ∧ w'.cell? ⟨w.heap.size, 1, none⟩ = some (.int .i64 x1.f1) ∧ w'.cell? ⟨w.heap.size, 2, none⟩ = some (.int .i64 x1.f2) ∧ w'.cell? ⟨w.heap.size + 1, 0, none⟩ = some (.int .i64 x2.f0) ∧ w'.cell? ⟨w.heap.size + 1, 1, none⟩ = some (.int .i64 x2.f1) ∧ w'.cell? ⟨w.heap.size + 1, 2, none⟩ = some (.int .i64 x2.f2)) (first | (with_reducible exact ⟨yk1_0_0, yk1_0_1, yk1_0_2, yk1_1_0, yk1_1_1, yk1_1_2⟩) | (with_reducible exact ⟨k1_0_0, k1_0_1, k1_0_2, k1_1_0, k1_1_1, k1_1_2⟩) | (go_split_ands; with_reducible exact ⟨kcl hv0 (by with_reducible assumption), kcl hv0 (by with_reducible assumption), kcl hv0 (by with_reducible assumption), kcl hv0 (by with_reducible assumption), kcl hv0 (by with_reducible assumption), kcl hv0 (by with_reducible assumption)⟩) | (go_split_ands; with_reducible exact ⟨kcl hv1 (by with_reducible assumption), kcl hv1 (by with_reducible assumption), kcl hv1 (by with_reducible assumption), kcl hv1 (by with_reducible assumption), kcl hv1 (by with_reducible assumption), kcl hv1 (by with_reducible assumption)⟩) | (go_split_ands; with_reducible exact ⟨kcl hv2 (by with_reducible assumption), kcl hv2 (by with_reducible assumption), kcl hv2 (by with_reducible assumption), kcl hv2 (by with_reducible assumption), kcl hv2 (by with_reducible assumption), kcl hv2 (by with_reducible assumption)⟩)) (first | (go_at_call 27; ((with_reducible refine (toPauli x1 _).mono ?_); rintro ee v0 ⟨rfl, hv0⟩; have hq0 := hv0.size; (try simp only [World.size_drew, World.size_alloc] at hq0))) | (go_at_call 27; ((with_reducible refine (toPauli x2 _).mono ?_); rintro ee v1 ⟨rfl, hv1⟩; have hq1 := hv1.size; (try simp only [World.size_drew, World.size_alloc] at hq1))) | (go_at_call 32; ((with_reducible refine (HS.out _).mono ?_); rintro ee v2 ⟨rfl, hv2⟩; have hq2 := hv2.size; (try simp only [World.size_drew, World.size_alloc] at hq2))))
    all_goals (go_wp2_with fail; go_meet)
    all_goals go_split_ands
    all_goals (refine ⟨⟨rfl, rfl⟩, (by with_reducible assumption), (by with_reducible assumption), (by with_reducible assumption), (by with_reducible assumption), (by with_reducible assumption), (by with_reducible assumption), (by (try simp only [World.size_alloc, World.size_drew, World.size_setCell]); omega), (by (repeat' (first | (with_reducible exact Below.refl _ _) | (with_reducible assumption) | (with_reducible refine Below.alloc ?_ ?_ _) | (with_reducible refine Below.drew ?_) | (with_reducible refine bdN ?_ _) | (with_reducible refine Below.setCell ?_ ?_ _) | (with_reducible refine chn ?_ (by assumption) ?_) | omega | (simp; done) | (simp; omega))))⟩)
  case rest =>
    obtain ⟨w2, rfl⟩ : ∃ w2, w2 = wc := ⟨_, rfl⟩
    clear k1_0_0 k1_0_1 k1_0_2 k1_1_0 k1_1_1 k1_1_2
    obtain ⟨⟨rfl, rfl⟩, k2_0_0, k2_0_1, k2_0_2, k2_1_0, k2_1_1, k2_1_2, hz2, hB2⟩ := hcut
    have bl2_0 : w.heap.size < w2.heap.size := World.block_lt_of_cell? _ _ k2_0_0
    have bl2_1 : w.heap.size + 1 < w2.heap.size := World.block_lt_of_cell? _ _ k2_1_0
    go_wp2_with (fail)
    go_cut [9, 10] (fun s9 s10 wx => (s9 = .bool r0 ∧ s10 = .bool r1) ∧ (wx.cell? ⟨w.heap.size, 0, none⟩ = some (.int .i64 x1.f0) ∧ wx.cell? ⟨w.heap.size, 1, none⟩ = some (.int .i64 x1.f1) ∧ wx.cell? ⟨w.heap.size, 2, none⟩ = some (.int .i64 x1.f2) ∧ wx.cell? ⟨w.heap.size + 1, 0, none⟩ = some (.int .i64 x2.f0) ∧ wx.cell? ⟨w.heap.size + 1, 1, none⟩ = some (.int .i64 x2.f1) ∧ wx.cell? ⟨w.heap.size + 1, 2, none⟩ = some (.int .i64 x2.f2) ∧ w2.heap.size ≤ wx.heap.size ∧ Below w.heap.size w wx))
    case first =>
      have yk2_0_0 : w2.drew.cell? ⟨w.heap.size, 0, none⟩ = some (.int .i64 x1.f0) := k2_0_0
      have yk2_0_1 : w2.drew.cell? ⟨w.heap.size, 1, none⟩ = some (.int .i64 x1.f1) := k2_0_1
      have yk2_0_2 : w2.drew.cell? ⟨w.heap.size, 2, none⟩ = some (.int .i64 x1.f2) := k2_0_2
      have yk2_1_0 : w2.drew.cell? ⟨w.heap.size + 1, 0, none⟩ = some (.int .i64 x2.f0) := k2_1_0
      have yk2_1_1 : w2.drew.cell? ⟨w.heap.size + 1, 1, none⟩ = some (.int .i64 x2.f1) := k2_1_1
      have yk2_1_2 : w2.drew.cell? ⟨w.heap.size + 1, 2, none⟩ = some (.int .i64 x2.f2) := k2_1_2
      have hBz := hB2.size
      go_region_held3 (fun w' => w'.cell? ⟨w.heap.size, 0, none⟩ = some (.int .i64 x1.f0) ∧ w'.cell? ⟨w.heap.size, 1, none⟩ = some (.int .i64 x1.f1) ∧ w'.cell? ⟨w.heap.size, 2, none⟩ = some (.int .i64 x1.f2) ∧ w'.cell? ⟨w.heap.size + 1, 0, none⟩ = some (.int .i64 x2.f0) ∧ w'.cell? ⟨w.heap.size + 1, 1, none⟩ = some (.int .i64 x2.f1) ∧ w'.cell? ⟨w.heap.size + 1, 2, none⟩ = some (.int .i64 x2.f2)) (first | (with_reducible exact ⟨yk2_0_0, yk2_0_1, yk2_0_2, yk2_1_0, yk2_1_1, yk2_1_2⟩) | (with_reducible exact ⟨k2_0_0, k2_0_1, k2_0_2, k2_1_0, k2_1_1, k2_1_2⟩) | (go_split_ands; with_reducible exact ⟨kcl hv0 (by with_reducible assumption), kcl hv0 (by with_reducible assumption), kcl hv0 (by with_reducible assumption), kcl hv0 (by with_reducible assumption), kcl hv0 (by with_reducible assumption), kcl hv0 (by with_reducible assumption)⟩) | (go_split_ands; with_reducible exact ⟨kcl hv1 (by with_reducible assumption), kcl hv1 (by with_reducible assumption), kcl hv1 (by with_reducible assumption), kcl hv1 (by with_reducible assumption), kcl hv1 (by with_reducible assumption), kcl hv1 (by with_reducible assumption)⟩) | (go_split_ands; with_reducible exact ⟨kcl hv2 (by with_reducible assumption), kcl hv2 (by with_reducible assumption), kcl hv2 (by with_reducible assumption), kcl hv2 (by with_reducible assumption), kcl hv2 (by with_reducible assumption), kcl hv2 (by with_reducible assumption)⟩)) (first | (go_at_call 27; ((with_reducible refine (toPauli x1 _).mono ?_); rintro ee v0 ⟨rfl, hv0⟩; have hq0 := hv0.size; (try simp only [World.size_drew, World.size_alloc] at hq0))) | (go_at_call 27; ((with_reducible refine (toPauli x2 _).mono ?_); rintro ee v1 ⟨rfl, hv1⟩; have hq1 := hv1.size; (try simp only [World.size_drew, World.size_alloc] at hq1))) | (go_at_call 33; ((with_reducible refine (HI.out _).mono ?_); rintro ee v2 ⟨rfl, hv2⟩; have hq2 := hv2.size; (try simp only [World.size_drew, World.size_alloc] at hq2))))
      all_goals (go_wp2_with fail; go_meet)
      all_goals go_split_ands
      all_goals (refine ⟨⟨rfl, rfl⟩, (by with_reducible assumption), (by with_reducible assumption), (by with_reducible assumption), (by with_reducible assumption), (by with_reducible assumption), (by with_reducible assumption), (by (try simp only [World.size_alloc, World.size_drew, World.size_setCell]); omega), (by (repeat' (first | (with_reducible exact Below.refl _ _) | (with_reducible assumption) | (with_reducible refine Below.alloc ?_ ?_ _) | (with_reducible refine Below.drew ?_) | (with_reducible refine bdN ?_ _) | (with_reducible refine Below.setCell ?_ ?_ _) | (with_reducible refine chn ?_ (by assumption) ?_) | omega | (simp; done) | (simp; omega))))⟩)
    case rest =>
      obtain ⟨w3, rfl⟩ : ∃ w3, w3 = wc := ⟨_, rfl⟩
      clear k2_0_0 k2_0_1 k2_0_2 k2_1_0 k2_1_1 k2_1_2
      obtain ⟨⟨rfl, rfl⟩, k3_0_0, k3_0_1, k3_0_2, k3_1_0, k3_1_1, k3_1_2, hz3, hB3⟩ := hcut
      have bl3_0 : w.heap.size < w3.heap.size := World.block_lt_of_cell? _ _ k3_0_0
      have bl3_1 : w.heap.size + 1 < w3.heap.size := World.block_lt_of_cell? _ _ k3_1_0
      go_wp2_with (fail)
      go_ret
      exact ⟨rfl, hB3⟩

theorem fnExactCommute_walk {i0 : Int} {x1 : PauliV} {x2 : PauliV} {w : World}  :
    Calls Try.prog 8 #[.int .i64 i0, x1.v, x2.v] w fun ee w' => ee = .returned (.bool true) ∧ Below w.heap.size w w' := by
  cases hok : (pB i0 x1 && pB i0 x2)
  · exact lwCommute (r0 := false) (r1 := false) (fun w => cm_s_f hok w) (fun w => cm_i_f hok w)  
  · rw [Bool.and_eq_true] at hok
    obtain ⟨k, pa, xa, za, rfl, q1, q5, rfl, hpa, g1, g2⟩ := pB_nat hok.1
    obtain ⟨k', pb, xb, zb, hk, -, -, rfl, hpb, g3, g4⟩ := pB_nat hok.2
    obtain rfl : k = k' := by omega
    exact lwCommute (r0 := !acB xa za xb zb) (r1 := true) (fun w => cm_s_t q1 q5 hpa hpb g1 g2 g3 g4 w) (fun w => cm_i_t q1 q5 hpa hpb g1 g2 g3 g4 w)  

end Go.Proofs.Ytgcligmpdlffoaa.C4
