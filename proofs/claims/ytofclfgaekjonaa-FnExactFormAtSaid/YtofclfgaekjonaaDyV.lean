/- Contracts of IsValidDyadic and of the models of IsValidDyadic and DyadicOf. -/
import Derived.Test.YtofclfgaekjonaaLowI
import Derived.Deep.LoopGhost
namespace Go.Proofs.Ytofclfgaekjonaa
open Go.RowKit RM
set_option linter.unusedVariables false
set_option linter.unusedSimpArgs false
attribute [local irreducible] World.setCell

set_option maxRecDepth 100000 in
set_option maxHeartbeats 2000000 in
theorem ivd_t (a b c d : Int) (e : Nat) (w : World) (hx : vr a b c d = true) (he : e ≤ 60) (hl : low e a b c d = ⟨a, b, c, d, e⟩) :
    Calls Try.prog 71 #[dy a b c d e] w fun ee w' => ee = .returned (.bool true) ∧ Below w.heap.size w w' := by
  have HX := hid hx
  clear hx
  have HE := hid he
  clear he
  have HL := hid hl
  clear hl
  go_enter Try.func71, Try.ntmps71
  go_wp2_with (first | (go_at_call 130; ((with_reducible refine (dof_t _ _ _ _ _ _ _ _ _ _ _ HX.out HE.out HL.out).mono ?_); rintro ee w1 ⟨rfl, hb1⟩; obtain ⟨hc1, hf1, _⟩ := bcell hb1; have hz1 := hb1.size; (try simp at hz1); (try have hx10 : w.heap.size < w1.heap.size := (by omega)); (try have hx11 : w.heap.size + 1 < w1.heap.size := (by omega)); (try have hx12 : w.heap.size + 1 + 1 < w1.heap.size := (by omega)); (try have hx13 : w.heap.size + 1 + 1 + 1 < w1.heap.size := (by omega)))) | go_in)
  go_ret
  refine ⟨rfl, ?_⟩
  repeat' (first | (with_reducible exact Below.refl _ _) | (with_reducible refine Below.alloc ?_ ?_ _) | (with_reducible refine Below.drew ?_) | (with_reducible refine Below.setCell ?_ ?_ _) | (with_reducible refine chain ?_ (by assumption) ?_) | omega | (simp; done) | (simp; omega))

set_option maxRecDepth 100000 in
set_option maxHeartbeats 2000000 in
theorem ivd_e (a b c d : Int) (e : Nat) (A B C D : Int) (E : Nat) (w : World) (hx : vr a b c d = true) (he : e ≤ 60) (hl : low e a b c d = ⟨A, B, C, D, E⟩) (hne0 : E ≠ e) :
    Calls Try.prog 71 #[dy a b c d e] w fun ee w' => ee = .returned (.bool false) ∧ Below w.heap.size w w' := by
  have HX := hid hx
  clear hx
  have HE := hid he
  clear he
  have HL := hid hl
  clear hl
  have hne : ¬ (E = e) := hne0
  have hne2 : ¬ ((E : Int) = (e : Int)) := by omega
  have hne3 : ((E : Int) == (e : Int)) = false := by simpa using hne2
  clear hne0
  go_enter Try.func71, Try.ntmps71
  go_wp2_with (first | (go_at_call 130; ((with_reducible refine (dof_t _ _ _ _ _ _ _ _ _ _ _ HX.out HE.out HL.out).mono ?_); rintro ee w1 ⟨rfl, hb1⟩; obtain ⟨hc1, hf1, _⟩ := bcell hb1; have hz1 := hb1.size; (try simp at hz1); (try have hx10 : w.heap.size < w1.heap.size := (by omega)); (try have hx11 : w.heap.size + 1 < w1.heap.size := (by omega)); (try have hx12 : w.heap.size + 1 + 1 < w1.heap.size := (by omega)); (try have hx13 : w.heap.size + 1 + 1 + 1 < w1.heap.size := (by omega)))) | go_in)
  go_ret
  refine ⟨rfl, ?_⟩
  repeat' (first | (with_reducible exact Below.refl _ _) | (with_reducible refine Below.alloc ?_ ?_ _) | (with_reducible refine Below.drew ?_) | (with_reducible refine Below.setCell ?_ ?_ _) | (with_reducible refine chain ?_ (by assumption) ?_) | omega | (simp; done) | (simp; omega))

set_option maxRecDepth 100000 in
set_option maxHeartbeats 2000000 in
theorem ivd_f (a b c d e : Int) (w : World) (hx : vr a b c d = false) :
    Calls Try.prog 71 #[dy a b c d e] w fun ee w' => ee = .returned (.bool false) ∧ Below w.heap.size w w' := by
  have HX := hid hx
  clear hx
  go_enter Try.func71, Try.ntmps71
  go_wp2_with (first | (go_at_call 130; ((with_reducible refine (dof_f _ _ _ _ _ _ HX.out).mono ?_); rintro ee w1 ⟨rfl, hb1⟩; obtain ⟨hc1, hf1, _⟩ := bcell hb1; have hz1 := hb1.size; (try simp at hz1); (try have hx10 : w.heap.size < w1.heap.size := (by omega)); (try have hx11 : w.heap.size + 1 < w1.heap.size := (by omega)); (try have hx12 : w.heap.size + 1 + 1 < w1.heap.size := (by omega)); (try have hx13 : w.heap.size + 1 + 1 + 1 < w1.heap.size := (by omega)))) | go_in)
  go_ret
  refine ⟨rfl, ?_⟩
  repeat' (first | (with_reducible exact Below.refl _ _) | (with_reducible refine Below.alloc ?_ ?_ _) | (with_reducible refine Below.drew ?_) | (with_reducible refine Below.setCell ?_ ?_ _) | (with_reducible refine chain ?_ (by assumption) ?_) | omega | (simp; done) | (simp; omega))

set_option maxRecDepth 100000 in
set_option maxHeartbeats 2000000 in
theorem ivd_n (a b c d e : Int) (w : World) (hx : vr a b c d = true) (he : e < 0) :
    Calls Try.prog 71 #[dy a b c d e] w fun ee w' => ee = .returned (.bool false) ∧ Below w.heap.size w w' := by
  have HX := hid hx
  clear hx
  have HE := hid he
  clear he
  go_enter Try.func71, Try.ntmps71
  go_wp2_with (first | (go_at_call 130; ((with_reducible refine (dof_n _ _ _ _ _ _ HX.out HE.out).mono ?_); rintro ee w1 ⟨rfl, hb1⟩; obtain ⟨hc1, hf1, _⟩ := bcell hb1; have hz1 := hb1.size; (try simp at hz1); (try have hx10 : w.heap.size < w1.heap.size := (by omega)); (try have hx11 : w.heap.size + 1 < w1.heap.size := (by omega)); (try have hx12 : w.heap.size + 1 + 1 < w1.heap.size := (by omega)); (try have hx13 : w.heap.size + 1 + 1 + 1 < w1.heap.size := (by omega)))) | go_in)
  go_ret
  refine ⟨rfl, ?_⟩
  repeat' (first | (with_reducible exact Below.refl _ _) | (with_reducible refine Below.alloc ?_ ?_ _) | (with_reducible refine Below.drew ?_) | (with_reducible refine Below.setCell ?_ ?_ _) | (with_reducible refine chain ?_ (by assumption) ?_) | omega | (simp; done) | (simp; omega))

set_option maxRecDepth 100000 in
set_option maxHeartbeats 2000000 in
theorem ivd_m (a b c d e : Int) (w : World) (hx : vr a b c d = true) (he : 60 < e) :
    Calls Try.prog 71 #[dy a b c d e] w fun ee w' => ee = .returned (.bool false) ∧ Below w.heap.size w w' := by
  have HX := hid hx
  clear hx
  have HE := hid he
  clear he
  go_enter Try.func71, Try.ntmps71
  go_wp2_with (first | (go_at_call 130; ((with_reducible refine (dof_m _ _ _ _ _ _ HX.out HE.out).mono ?_); rintro ee w1 ⟨rfl, hb1⟩; obtain ⟨hc1, hf1, _⟩ := bcell hb1; have hz1 := hb1.size; (try simp at hz1); (try have hx10 : w.heap.size < w1.heap.size := (by omega)); (try have hx11 : w.heap.size + 1 < w1.heap.size := (by omega)); (try have hx12 : w.heap.size + 1 + 1 < w1.heap.size := (by omega)); (try have hx13 : w.heap.size + 1 + 1 + 1 < w1.heap.size := (by omega)))) | go_in)
  go_ret
  refine ⟨rfl, ?_⟩
  repeat' (first | (with_reducible exact Below.refl _ _) | (with_reducible refine Below.alloc ?_ ?_ _) | (with_reducible refine Below.drew ?_) | (with_reducible refine Below.setCell ?_ ?_ _) | (with_reducible refine chain ?_ (by assumption) ?_) | omega | (simp; done) | (simp; omega))

theorem ivd_v {a b c d : Int} {e : Nat} (w : World) (h : vd a b c d e = true) :
    Calls Try.prog 71 #[dy a b c d e] w fun ee w' => ee = .returned (.bool true) ∧ Below w.heap.size w w' := by
  obtain ⟨h1, h2, h3⟩ := vd_iff.1 h
  exact ivd_t a b c d e w h1 h2 (low_fix h3)
theorem ivd_no {a b c d e : Int} (w : World) (h : vi a b c d e = false) :
    Calls Try.prog 71 #[dy a b c d e] w fun ee w' => ee = .returned (.bool false) ∧ Below w.heap.size w w' := by
  cases hx : vr a b c d
  · exact ivd_f a b c d e w hx
  · by_cases h0 : e < 0
    · exact ivd_n a b c d e w hx h0
    · by_cases h1 : 60 < e
      · exact ivd_m a b c d e w hx h1
      · obtain ⟨n, rfl⟩ : ∃ n : Nat, e = n := ⟨e.toNat, by omega⟩
        rw [vi_nat] at h
        have hn : ¬ (n = 0 ∨ ev2 a b c d = false) := fun hh => by rw [vd_iff.2 ⟨hx, by omega, hh⟩] at h; cases h
        rcases hq : low n a b c d with ⟨A, B, C, D, E⟩
        exact ivd_e a b c d n A B C D E w hx (by omega) hq (low_ne hx hn hq)
end Go.Proofs.Ytofclfgaekjonaa
