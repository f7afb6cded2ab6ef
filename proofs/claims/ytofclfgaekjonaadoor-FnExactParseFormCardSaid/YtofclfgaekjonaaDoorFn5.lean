/- FormatForm: both answer alike. -/
import Derived.Test.YtofclfgaekjonaaDoorFn4
namespace Go.Proofs.YtofclfgaekjonaaDoor
open Go.RowKit RM
set_option linter.unusedVariables false
set_option linter.unusedSimpArgs false
attribute [local irreducible] World.setCell

set_option maxRecDepth 100000 in
set_option maxHeartbeats 4000000 in
theorem sf_t {s : ByteArray} {q r : Nat} (hz : s.size ≤ 40) (hq : q ≤ 23) (hr : r ≤ 7) (hv : vfm s (q : Int) (r : Int) = true) (w : World) :
    Calls Tryd.prog 13 #[fmv s (q : Int) (r : Int)] w fun ee w' => ee = .returned (.tuple #[.string (ffm s q r), .bool true]) ∧ Below w.heap.size w w' := by
  have HV : Hid (∀ w, Calls Tryd.prog 18 #[fmv s (q : Int) (r : Int)] w fun ee w' => ee = .returned (.bool true) ∧ Below w.heap.size w w') := lay0 (by intro w; have h := vl_s (c := (q : Int)) (p := (r : Int)) (s := s) (by omega) w; rw [hv] at h; exact h)
  have HT := lay0 (fun w => lt_t hz hq hr w)
  generalize ffm s q r = T at *
  clear hv
  go_enter Tryd.func13, Tryd.ntmps13
  go_wp2_with (first | (go_at_call 18; ((with_reducible refine (HV.out _).mono ?_); rintro ee w1 ⟨rfl, hb1⟩; have hz1 := hb1.size; (try simp only [World.size_alloc] at hz1); have e0 := (hb1.cell (p := ⟨w.heap.size, 0, none⟩) (by simp)).trans (show _ = some (Value.string s) by simp); have e1 := (hb1.cell (p := ⟨w.heap.size, 1, none⟩) (by simp)).trans (show _ = some (Value.int .i64 (q : Int)) by simp); have e2 := (hb1.cell (p := ⟨w.heap.size, 2, none⟩) (by simp)).trans (show _ = some (Value.int .i64 (r : Int)) by simp))) | (go_at_call 28; ((with_reducible refine (HT.out _).mono ?_); rintro ee w2 ⟨rfl, hb2⟩)))
  refine bodyPost_ret (v := .tuple #[.string T, .bool true]) (by simp [results, Tryd.results13, go_sem, *]) rfl ⟨rfl, ?_⟩
  (repeat' (first | (with_reducible exact Below.refl _ _) | (with_reducible assumption) | (with_reducible refine Below.alloc ?_ ?_ _) | (with_reducible refine Below.drew ?_) | (with_reducible refine below_drewN ?_ _) | (with_reducible refine Below.setCell ?_ ?_ _) | (with_reducible refine chain ?_ (by assumption) ?_) | omega | (simp; done) | (simp; omega)))
set_option maxRecDepth 100000 in
set_option maxHeartbeats 4000000 in
theorem sf_f {s : ByteArray} {c p : Int} (hz : s.size ≤ 1048576) (hv : vfm s c p = false) (w : World) :
    Calls Tryd.prog 13 #[fmv s c p] w fun ee w' => ee = .returned (.tuple #[.string (ByteArray.mk #[]), .bool false]) ∧ Below w.heap.size w w' := by
  have HV : Hid (∀ w, Calls Tryd.prog 18 #[fmv s c p] w fun ee w' => ee = .returned (.bool false) ∧ Below w.heap.size w w') := lay0 (by intro w; have h := vl_s (c := c) (p := p) hz w; rw [hv] at h; exact h)
  clear hv hz
  go_enter Tryd.func13, Tryd.ntmps13
  go_wp2_with (go_at_call 18; ((with_reducible refine (HV.out _).mono ?_); rintro ee w1 ⟨rfl, hb1⟩))
  refine bodyPost_ret (v := .tuple #[.string (ByteArray.mk #[]), .bool false]) (by simp [results, Tryd.results13, go_sem, *]) rfl ⟨rfl, ?_⟩
  (repeat' (first | (with_reducible exact Below.refl _ _) | (with_reducible assumption) | (with_reducible refine Below.alloc ?_ ?_ _) | (with_reducible refine Below.drew ?_) | (with_reducible refine below_drewN ?_ _) | (with_reducible refine Below.setCell ?_ ?_ _) | (with_reducible refine chain ?_ (by assumption) ?_) | omega | (simp; done) | (simp; omega)))
theorem ff_both {s : ByteArray} {c p : Int} (hz : s.size ≤ 1048576) : ∃ (T : ByteArray) (t : Bool), (∀ w : World, Calls Tryd.prog 13 #[fmv s c p] w fun ee w' => ee = .returned (.tuple #[.string T, .bool t]) ∧ Below w.heap.size w w') ∧ (∀ w : World, Calls Tryd.prog 14 #[fmv s c p] w fun ee w' => ee = .returned (.tuple #[.string T, .bool t]) ∧ Below w.heap.size w w') := by
  rcases hv : vfm s c p with _ | _
  · exact ⟨_, _, fun w => sf_f hz hv w, fun w => ff_f hz hv w⟩
  · have h1 := hv
    unfold vfm at h1
    simp only [Bool.and_eq_true, decide_eq_true_eq] at h1
    obtain ⟨⟨⟨_, h40⟩, hc0, hc1⟩, hp0, hp1⟩ := h1
    obtain ⟨q, rfl⟩ := Int.eq_ofNat_of_zero_le hc0
    obtain ⟨r, rfl⟩ := Int.eq_ofNat_of_zero_le hp0
    exact ⟨_, _, fun w => sf_t h40 (by omega) (by omega) hv w, fun w => ff_t h40 (by omega) (by omega) hv w⟩

end Go.Proofs.YtofclfgaekjonaaDoor
