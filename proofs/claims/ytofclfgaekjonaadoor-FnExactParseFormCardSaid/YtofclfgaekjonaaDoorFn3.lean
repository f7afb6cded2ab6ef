/- FormatForm: the program. -/
import Derived.Test.YtofclfgaekjonaaDoorJn
import Derived.Test.YtofclfgaekjonaaDoorRgx
import Derived.Test.YtofclfgaekjonaaDoorHeldB
namespace Go.Proofs.YtofclfgaekjonaaDoor
open Go.RowKit RM
set_option linter.unusedVariables false
set_option linter.unusedSimpArgs false
attribute [local irreducible] World.setCell

/-- the text of a valid form -/
def ffm (s : ByteArray) (q r : Nat) : ByteArray := jac (orS s) (dg2 q) (dg2 r) 2
theorem cor {s : ByteArray} {g : Nat} {w : World} (c0 : w.cell? ⟨g, 0, none⟩ = some (.string s)) (c1 : w.cell? ⟨g, 1, none⟩ = some (.string (ByteArray.mk #[45]))) :
    Calls Tryd.prog 29 #[.slice (some ⟨g, 0, none⟩) 2 2] w fun ee w' => ee = .returned (.string (orS s)) ∧ w = w' := by
  unfold orS
  by_cases h : s = ByteArray.mk #[]
  · rw [if_pos h]; exact cor1 h c0 c1
  · rw [if_neg h]; exact cor0 h c0 c1
theorem orS_size {s : ByteArray} (h : s.size ≤ 40) : (orS s).size ≤ 40 := by
  unfold orS
  split
  · exact (by decide : 1 ≤ 40)
  · exact h
set_option maxRecDepth 100000 in
set_option maxHeartbeats 8000000 in
theorem ff_t {s : ByteArray} {q r : Nat} (hz : s.size ≤ 40) (hq : q ≤ 23) (hr : r ≤ 7) (hv : vfm s (q : Int) (r : Int) = true) (w : World) :
    Calls Tryd.prog 14 #[fmv s (q : Int) (r : Int)] w fun ee w' => ee = .returned (.tuple #[.string (ffm s q r), .bool true]) ∧ Below w.heap.size w w' := by
  have HV : Hid (∀ w, Calls Tryd.prog 20 #[fmv s (q : Int) (r : Int)] w fun ee w' => ee = .returned (.bool true) ∧ Below w.heap.size w w') := lay0 (by intro w; have h := vf_i (c := (q : Int)) (p := (r : Int)) (s := s) (by omega) w; rw [hv] at h; exact h)
  have HQ := lay0 (fun w => itoa2 hq w)
  have HR := lay0 (fun w => itoa2 (q := r) (by omega) w)
  have HO := lay0 (orS_size hz)
  clear hv
  go_enter Tryd.func14, Tryd.ntmps14
  go_wp2_with (go_at_call 20; ((with_reducible refine (HV.out _).mono ?_); rintro ee w1 ⟨rfl, hb1⟩))
  have HB1 : Hid (Below w.heap.size w w1) := lay0 (((Below.refl w.heap.size w).alloc (Nat.le_refl _) _).trans (hb1.mono (by simp)))
  have e0 : w1.cell? ⟨w.heap.size, 0, none⟩ = some (.string s) := (hb1.cell (p := ⟨w.heap.size, 0, none⟩) (by simp)).trans (by simp)
  have e1 : w1.cell? ⟨w.heap.size, 1, none⟩ = some (.int .i64 (q : Int)) := (hb1.cell (p := ⟨w.heap.size, 1, none⟩) (by simp)).trans (by simp)
  have e2 : w1.cell? ⟨w.heap.size, 2, none⟩ = some (.int .i64 (r : Int)) := (hb1.cell (p := ⟨w.heap.size, 2, none⟩) (by simp)).trans (by simp)
  have z1 : w.heap.size < w1.heap.size := by have h := hb1.size; simp at h; omega
  clear hb1
  have ye0 : w1.drew.cell? ⟨w.heap.size, 0, none⟩ = some (.string s) := e0
  have ye1 : w1.drew.cell? ⟨w.heap.size, 1, none⟩ = some (.int .i64 (q : Int)) := e1
  have ye2 : w1.drew.cell? ⟨w.heap.size, 2, none⟩ = some (.int .i64 (r : Int)) := e2
  refine wp_region_x (fun w' => w'.cell? ⟨w.heap.size, 0, none⟩ = some (.string s) ∧ w'.cell? ⟨w.heap.size, 1, none⟩ = some (.int .i64 (q : Int)) ∧ w'.cell? ⟨w.heap.size, 2, none⟩ = some (.int .i64 (r : Int))) 1000 (by kernel_rfl) ⟨ye0, ye1, ye2⟩ (fun hS0 => ?_)
  refine wpAnyX_take (i := 0) (oi := _) (v := ?_) rfl (by kernel_rfl) (by kernel_rfl) (by kernel_rfl) (by kernel_rfl) (fun _ _ _ h => h) (Or.inl ⟨by rfl, ?_⟩) hS0 ?_
  rotate_left 1
  · (intro w hSw; (try dsimp only at hSw); go_simp; (try with_reducible rfl))
  change wpAnyX _ _ _ _ _ _ _ _ (Act.put _ (some 8) _) _
  try simp only [Act.put, List.setIfInBounds_toArray, List.set_cons_zero, List.set_cons_succ]
  refine wpAnyX_take (i := 1) (oi := _) (v := ?_) rfl (by kernel_rfl) (by kernel_rfl) (by kernel_rfl) (by kernel_rfl) (fun _ _ _ h => h) (Or.inl ⟨by rfl, ?_⟩) hS0 ?_
  rotate_left 1
  · (intro w hSw; (try dsimp only at hSw); go_simp; (try with_reducible rfl))
  change wpAnyX _ _ _ _ _ _ _ _ (Act.put _ (some 9) _) _
  try simp only [Act.put, List.setIfInBounds_toArray, List.set_cons_zero, List.set_cons_succ]
  refine wpAnyX_take (i := 4) (oi := _) (v := ?_) rfl (by kernel_rfl) (by kernel_rfl) (by kernel_rfl) (by kernel_rfl) (fun _ _ _ h => h) (Or.inl ⟨by rfl, ?_⟩) hS0 ?_
  rotate_left 1
  · (intro w hSw; (try dsimp only at hSw); go_simp; (try with_reducible rfl))
  change wpAnyX _ _ _ _ _ _ _ _ (Act.put _ (some 12) _) _
  try simp only [Act.put, List.setIfInBounds_toArray, List.set_cons_zero, List.set_cons_succ]
  refine wpAnyX_take (i := 5) (oi := _) (v := ?_) rfl (by kernel_rfl) (by kernel_rfl) (by kernel_rfl) (by kernel_rfl) (fun _ _ _ h => h) (Or.inl ⟨by rfl, ?_⟩) hS0 ?_
  rotate_left 1
  · (intro w hSw; (try dsimp only at hSw); go_simp; (try with_reducible rfl))
  change wpAnyX _ _ _ _ _ _ _ _ (Act.put _ (some 13) _) _
  try simp only [Act.put, List.setIfInBounds_toArray, List.set_cons_zero, List.set_cons_succ]
  refine wpAnyX_take (i := 7) (oi := _) (v := ?_) rfl (by kernel_rfl) (by kernel_rfl) (by kernel_rfl) (by kernel_rfl) (fun _ _ _ h => h) (Or.inl ⟨by rfl, ?_⟩) hS0 ?_
  rotate_left 1
  · (intro w hSw; (try dsimp only at hSw); go_simp; (try with_reducible rfl))
  change wpAnyX _ _ _ _ _ _ _ _ (Act.put _ (some 15) _) _
  try simp only [Act.put, List.setIfInBounds_toArray, List.set_cons_zero, List.set_cons_succ]
  refine wpAnyX_take (i := 8) (oi := _) (v := ?_) rfl (by kernel_rfl) (by kernel_rfl) (by kernel_rfl) (by kernel_rfl) (fun _ _ _ h => h) (Or.inl ⟨by rfl, ?_⟩) hS0 ?_
  rotate_left 1
  · (intro w hSw; (try dsimp only at hSw); go_simp; (try with_reducible rfl))
  change wpAnyX _ _ _ _ _ _ _ _ (Act.put _ (some 16) _) _
  try simp only [Act.put, List.setIfInBounds_toArray, List.set_cons_zero, List.set_cons_succ]
  refine wpAnyX_one (i := 2) (o := _) rfl (by kernel_rfl) (fun K hK => ?_)
  go_simp
  refine hK.out _ _ (fun _ => ?_) (fun hS1 => ?_)
  · first | exact hS0 | exact ⟨kal (hS0.1), kal (hS0.2.1), kal (hS0.2.2)⟩ | exact ⟨(hS0.1), (hS0.2.1), (hS0.2.2)⟩
  clear hK K
  have hS1 := hS1 (by decide)
  try simp only [Act.put, List.setIfInBounds_toArray, List.set_cons_zero, List.set_cons_succ]
  refine wpAnyX_one (i := 3) (o := _) rfl (by kernel_rfl) (fun K hK => ?_)
  go_simp
  refine (cor (s := s) (by simp) (by simp)).mono ?_
  rintro ee v0 ⟨rfl, rfl⟩
  refine hK.out _ _ (fun _ => ?_) (fun hS2 => ?_)
  · first | exact hS1 | exact ⟨kal (hS1.1), kal (hS1.2.1), kal (hS1.2.2)⟩ | exact ⟨(hS1.1), (hS1.2.1), (hS1.2.2)⟩
  clear hK K
  have hS2 := hS2 (by decide)
  try simp only [Act.put, List.setIfInBounds_toArray, List.set_cons_zero, List.set_cons_succ]
  refine wpAnyX_one (i := 6) (o := _) rfl (by kernel_rfl) (fun K hK => ?_)
  go_simp
  refine (HQ.out _).mono ?_
  rintro ee v1 ⟨rfl, rfl⟩
  refine hK.out _ _ (fun _ => ?_) (fun hS3 => ?_)
  · first | exact hS2 | exact ⟨kal (hS2.1), kal (hS2.2.1), kal (hS2.2.2)⟩ | exact ⟨(hS2.1), (hS2.2.1), (hS2.2.2)⟩
  clear hK K
  have hS3 := hS3 (by decide)
  try simp only [Act.put, List.setIfInBounds_toArray, List.set_cons_zero, List.set_cons_succ]
  refine wpAnyX_one (i := 9) (o := _) rfl (by kernel_rfl) (fun K hK => ?_)
  go_simp
  refine (HR.out _).mono ?_
  rintro ee v2 ⟨rfl, rfl⟩
  refine hK.out _ _ (fun _ => ?_) (fun hS4 => ?_)
  · first | exact hS3 | exact ⟨kal (hS3.1), kal (hS3.2.1), kal (hS3.2.2)⟩ | exact ⟨(hS3.1), (hS3.2.1), (hS3.2.2)⟩
  clear hK K
  have hS4 := hS4 (by decide)
  try simp only [Act.put, List.setIfInBounds_toArray, List.set_cons_zero, List.set_cons_succ]
  refine wpAnyX_one (i := 10) (o := _) rfl (by kernel_rfl) (fun K hK => ?_)
  go_simp
  refine hK.out _ _ (fun _ => ?_) (fun hS5 => ?_)
  · first | exact hS4 | exact ⟨kal (hS4.1), kal (hS4.2.1), kal (hS4.2.2)⟩ | exact ⟨(hS4.1), (hS4.2.1), (hS4.2.2)⟩
  clear hK K
  have hS5 := hS5 (by decide)
  try simp only [Act.put, List.setIfInBounds_toArray, List.set_cons_zero, List.set_cons_succ]
  refine wpAnyX_take (i := 11) (oi := _) (v := ?_) rfl (by kernel_rfl) (by kernel_rfl) (by kernel_rfl) (by kernel_rfl) (fun _ _ _ h => h) (Or.inl ⟨by rfl, ?_⟩) hS5 ?_
  rotate_left 1
  · (intro w hSw; (try dsimp only at hSw); go_simp; (try with_reducible rfl))
  change wpAnyX _ _ _ _ _ _ _ _ (Act.put _ (some 4) _) _
  try simp only [Act.put, List.setIfInBounds_toArray, List.set_cons_zero, List.set_cons_succ]
  refine wpAnyX_done (by kernel_rfl) ?_ _
  have HB1 := HB1.out
  have g2 := @dg2_size q
  have g3 := @dg2_size r
  have g4 := HO.out
  clear ye0 ye1 ye2
  go_wp2_with (go_at_call 31; refine (join3 (a := orS s) (b := dg2 q) (c := dg2 r) ?hg ?c0 ?c1 ?c2 (by omega) (by omega) (by omega)).mono ?_)
  case hg => simp
  case c0 => simp
  case c1 => simp
  case c2 => simp
  rintro ee w9 ⟨rfl, hb9⟩
  go_wp2_with (fail)
  refine bodyPost_ret (v := .tuple #[.string (jac (orS s) (dg2 q) (dg2 r) 2), .bool true]) (by simp [results, Tryd.results14, go_sem, *]) rfl ⟨rfl, ?_⟩
  have hz9 := HB1.size
  (repeat' (first | (with_reducible exact Below.refl _ _) | (with_reducible assumption) | (with_reducible refine Below.alloc ?_ ?_ _) | (with_reducible refine Below.drew ?_) | (with_reducible refine below_drewN ?_ _) | (with_reducible refine Below.setCell ?_ ?_ _) | (with_reducible refine chain ?_ (by assumption) ?_) | omega | (simp; done) | (simp; omega)))
set_option maxRecDepth 100000 in
set_option maxHeartbeats 4000000 in
theorem ff_f {s : ByteArray} {c p : Int} (hz : s.size ≤ 1048576) (hv : vfm s c p = false) (w : World) :
    Calls Tryd.prog 14 #[fmv s c p] w fun ee w' => ee = .returned (.tuple #[.string (ByteArray.mk #[]), .bool false]) ∧ Below w.heap.size w w' := by
  have HV : Hid (∀ w, Calls Tryd.prog 20 #[fmv s c p] w fun ee w' => ee = .returned (.bool false) ∧ Below w.heap.size w w') := lay0 (by intro w; have h := vf_i (c := c) (p := p) hz w; rw [hv] at h; exact h)
  clear hv hz
  go_enter Tryd.func14, Tryd.ntmps14
  go_wp2_with (go_at_call 20; ((with_reducible refine (HV.out _).mono ?_); rintro ee w1 ⟨rfl, hb1⟩))
  refine bodyPost_ret (v := .tuple #[.string (ByteArray.mk #[]), .bool false]) (by simp [results, Tryd.results14, go_sem, *]) rfl ⟨rfl, ?_⟩
  (repeat' (first | (with_reducible exact Below.refl _ _) | (with_reducible assumption) | (with_reducible refine Below.alloc ?_ ?_ _) | (with_reducible refine Below.drew ?_) | (with_reducible refine below_drewN ?_ _) | (with_reducible refine Below.setCell ?_ ?_ _) | (with_reducible refine chain ?_ (by assumption) ?_) | omega | (simp; done) | (simp; omega)))
end Go.Proofs.YtofclfgaekjonaaDoor
