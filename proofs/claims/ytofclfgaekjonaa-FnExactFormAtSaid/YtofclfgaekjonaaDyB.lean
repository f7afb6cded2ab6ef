/- Contracts of the validity of a dyadic number, of the lowest form, of DyadicOf. -/
import Derived.Test.YtofclfgaekjonaaDyA
import Derived.Test.YtofclfgaekjonaaDRootI
import Derived.Deep.LoopGhost
namespace Go.Proofs.Ytofclfgaekjonaa
open Go.RowKit RM
set_option linter.unusedVariables false
set_option linter.unusedSimpArgs false
attribute [local irreducible] World.setCell

set_option maxRecDepth 100000 in
set_option maxHeartbeats 2000000 in
theorem g2_f (a b c d e : Int) (w : World) (hx : vr a b c d = false) :
    Calls Try.prog 107 #[dy a b c d e] w fun ee w' => ee = .returned (.bool false) ∧ Below w.heap.size w w' := by
  have HX := hid hx
  clear hx
  go_enter Try.func107, Try.ntmps107
  go_wp2_with (first | (go_at_call 155; ((with_reducible refine (lg_f _ _ _ _ _ HX.out).mono ?_); rintro ee w1 ⟨rfl, hb1⟩; obtain ⟨hc1, hf1, _⟩ := bcell hb1; have hz1 := hb1.size; (try simp at hz1); (try have hx10 : w.heap.size < w1.heap.size := (by omega)); (try have hx11 : w.heap.size + 1 < w1.heap.size := (by omega)); (try have hx12 : w.heap.size + 1 + 1 < w1.heap.size := (by omega)); (try have hx13 : w.heap.size + 1 + 1 + 1 < w1.heap.size := (by omega)))) | go_in)
  go_ret
  refine ⟨rfl, ?_⟩
  repeat' (first | (with_reducible exact Below.refl _ _) | (with_reducible refine Below.alloc ?_ ?_ _) | (with_reducible refine Below.drew ?_) | (with_reducible refine Below.setCell ?_ ?_ _) | (with_reducible refine chain ?_ (by assumption) ?_) | omega | (simp; done) | (simp; omega))

set_option maxRecDepth 100000 in
set_option maxHeartbeats 2000000 in
theorem g2_n (a b c d e : Int) (w : World) (hx : vr a b c d = true) (he : e < 0) :
    Calls Try.prog 107 #[dy a b c d e] w fun ee w' => ee = .returned (.bool false) ∧ Below w.heap.size w w' := by
  have he2 : ¬ (0 ≤ e) := by omega
  have HX := hid hx
  clear hx
  have HE := hid he
  clear he
  go_enter Try.func107, Try.ntmps107
  go_wp2_with (first | (go_at_call 155; ((with_reducible refine (lg_t _ _ _ _ _ HX.out).mono ?_); rintro ee w1 ⟨rfl, hb1⟩; obtain ⟨hc1, hf1, _⟩ := bcell hb1; have hz1 := hb1.size; (try simp at hz1); (try have hx10 : w.heap.size < w1.heap.size := (by omega)); (try have hx11 : w.heap.size + 1 < w1.heap.size := (by omega)); (try have hx12 : w.heap.size + 1 + 1 < w1.heap.size := (by omega)); (try have hx13 : w.heap.size + 1 + 1 + 1 < w1.heap.size := (by omega)))) | go_in)
  go_ret
  refine ⟨rfl, ?_⟩
  repeat' (first | (with_reducible exact Below.refl _ _) | (with_reducible refine Below.alloc ?_ ?_ _) | (with_reducible refine Below.drew ?_) | (with_reducible refine Below.setCell ?_ ?_ _) | (with_reducible refine chain ?_ (by assumption) ?_) | omega | (simp; done) | (simp; omega))

set_option maxRecDepth 100000 in
set_option maxHeartbeats 2000000 in
theorem g2_m (a b c d e : Int) (w : World) (hx : vr a b c d = true) (he : 60 < e) :
    Calls Try.prog 107 #[dy a b c d e] w fun ee w' => ee = .returned (.bool false) ∧ Below w.heap.size w w' := by
  have he2 : ¬ (e ≤ 60) := by omega
  have he3 : 0 ≤ e := by omega
  have HX := hid hx
  clear hx
  have HE := hid he
  clear he
  go_enter Try.func107, Try.ntmps107
  go_wp2_with (first | (go_at_call 155; ((with_reducible refine (lg_t _ _ _ _ _ HX.out).mono ?_); rintro ee w1 ⟨rfl, hb1⟩; obtain ⟨hc1, hf1, _⟩ := bcell hb1; have hz1 := hb1.size; (try simp at hz1); (try have hx10 : w.heap.size < w1.heap.size := (by omega)); (try have hx11 : w.heap.size + 1 < w1.heap.size := (by omega)); (try have hx12 : w.heap.size + 1 + 1 < w1.heap.size := (by omega)); (try have hx13 : w.heap.size + 1 + 1 + 1 < w1.heap.size := (by omega)))) | go_in)
  go_ret
  refine ⟨rfl, ?_⟩
  repeat' (first | (with_reducible exact Below.refl _ _) | (with_reducible refine Below.alloc ?_ ?_ _) | (with_reducible refine Below.drew ?_) | (with_reducible refine Below.setCell ?_ ?_ _) | (with_reducible refine chain ?_ (by assumption) ?_) | omega | (simp; done) | (simp; omega))

set_option maxRecDepth 100000 in
set_option maxHeartbeats 2000000 in
theorem g2_z (a b c d : Int) (w : World) (hx : vr a b c d = true) :
    Calls Try.prog 107 #[dy a b c d 0] w fun ee w' => ee = .returned (.bool true) ∧ Below w.heap.size w w' := by
  have HX := hid hx
  clear hx
  go_enter Try.func107, Try.ntmps107
  go_wp2_with (first | (go_at_call 155; ((with_reducible refine (lg_t _ _ _ _ _ HX.out).mono ?_); rintro ee w1 ⟨rfl, hb1⟩; obtain ⟨hc1, hf1, _⟩ := bcell hb1; have hz1 := hb1.size; (try simp at hz1); (try have hx10 : w.heap.size < w1.heap.size := (by omega)); (try have hx11 : w.heap.size + 1 < w1.heap.size := (by omega)); (try have hx12 : w.heap.size + 1 + 1 < w1.heap.size := (by omega)); (try have hx13 : w.heap.size + 1 + 1 + 1 < w1.heap.size := (by omega)))) | go_in)
  go_ret
  refine ⟨rfl, ?_⟩
  repeat' (first | (with_reducible exact Below.refl _ _) | (with_reducible refine Below.alloc ?_ ?_ _) | (with_reducible refine Below.drew ?_) | (with_reducible refine Below.setCell ?_ ?_ _) | (with_reducible refine chain ?_ (by assumption) ?_) | omega | (simp; done) | (simp; omega))

set_option maxRecDepth 100000 in
set_option maxHeartbeats 2000000 in
theorem g2_e (a b c d e : Int) (w : World) (hx : vr a b c d = true) (he : 1 ≤ e ∧ e ≤ 60) (hv : ev2 a b c d = true) :
    Calls Try.prog 107 #[dy a b c d e] w fun ee w' => ee = .returned (.bool false) ∧ Below w.heap.size w w' := by
  have he2 : e ≤ 60 := by omega
  have he3 : 0 ≤ e := by omega
  have he4 : ¬ (e = 0) := by omega
  have he5 : (e == 0) = false := by simpa using he4
  have HX := hid hx
  clear hx
  have HE := hid he
  clear he
  have HV := hid hv
  clear hv
  go_enter Try.func107, Try.ntmps107
  go_wp2_with (first | (go_at_call 155; ((with_reducible refine (lg_t _ _ _ _ _ HX.out).mono ?_); rintro ee w1 ⟨rfl, hb1⟩; obtain ⟨hc1, hf1, _⟩ := bcell hb1; have hz1 := hb1.size; (try simp at hz1); (try have hx10 : w.heap.size < w1.heap.size := (by omega)); (try have hx11 : w.heap.size + 1 < w1.heap.size := (by omega)); (try have hx12 : w.heap.size + 1 + 1 < w1.heap.size := (by omega)); (try have hx13 : w.heap.size + 1 + 1 + 1 < w1.heap.size := (by omega)))) | (go_at_call 156; ((with_reducible refine (evt _ HV.out HX.out).mono ?_); rintro ee w2 ⟨rfl, hb2⟩; obtain ⟨hc2, hf2, _⟩ := bcell hb2; have hz2 := hb2.size; (try simp at hz2); (try have hx20 : w.heap.size < w2.heap.size := (by omega)); (try have hx21 : w.heap.size + 1 < w2.heap.size := (by omega)); (try have hx22 : w.heap.size + 1 + 1 < w2.heap.size := (by omega)); (try have hx23 : w.heap.size + 1 + 1 + 1 < w2.heap.size := (by omega)))) | go_in)
  go_ret
  refine ⟨rfl, ?_⟩
  repeat' (first | (with_reducible exact Below.refl _ _) | (with_reducible refine Below.alloc ?_ ?_ _) | (with_reducible refine Below.drew ?_) | (with_reducible refine Below.setCell ?_ ?_ _) | (with_reducible refine chain ?_ (by assumption) ?_) | omega | (simp; done) | (simp; omega))

set_option maxRecDepth 100000 in
set_option maxHeartbeats 2000000 in
theorem g2_o (a b c d e : Int) (w : World) (hx : vr a b c d = true) (he : 1 ≤ e ∧ e ≤ 60) (hv : ev2 a b c d = false) :
    Calls Try.prog 107 #[dy a b c d e] w fun ee w' => ee = .returned (.bool true) ∧ Below w.heap.size w w' := by
  have he2 : e ≤ 60 := by omega
  have he3 : 0 ≤ e := by omega
  have he4 : ¬ (e = 0) := by omega
  have he5 : (e == 0) = false := by simpa using he4
  have HX := hid hx
  clear hx
  have HE := hid he
  clear he
  have HV := hid hv
  clear hv
  go_enter Try.func107, Try.ntmps107
  go_wp2_with (first | (go_at_call 155; ((with_reducible refine (lg_t _ _ _ _ _ HX.out).mono ?_); rintro ee w1 ⟨rfl, hb1⟩; obtain ⟨hc1, hf1, _⟩ := bcell hb1; have hz1 := hb1.size; (try simp at hz1); (try have hx10 : w.heap.size < w1.heap.size := (by omega)); (try have hx11 : w.heap.size + 1 < w1.heap.size := (by omega)); (try have hx12 : w.heap.size + 1 + 1 < w1.heap.size := (by omega)); (try have hx13 : w.heap.size + 1 + 1 + 1 < w1.heap.size := (by omega)))) | (go_at_call 156; ((with_reducible refine (evf _ HV.out HX.out).mono ?_); rintro ee w2 ⟨rfl, hb2⟩; obtain ⟨hc2, hf2, _⟩ := bcell hb2; have hz2 := hb2.size; (try simp at hz2); (try have hx20 : w.heap.size < w2.heap.size := (by omega)); (try have hx21 : w.heap.size + 1 < w2.heap.size := (by omega)); (try have hx22 : w.heap.size + 1 + 1 < w2.heap.size := (by omega)); (try have hx23 : w.heap.size + 1 + 1 + 1 < w2.heap.size := (by omega)))) | go_in)
  go_ret
  refine ⟨rfl, ?_⟩
  repeat' (first | (with_reducible exact Below.refl _ _) | (with_reducible refine Below.alloc ?_ ?_ _) | (with_reducible refine Below.drew ?_) | (with_reducible refine Below.setCell ?_ ?_ _) | (with_reducible refine chain ?_ (by assumption) ?_) | omega | (simp; done) | (simp; omega))

theorem g2_t {a b c d : Int} {e : Nat} (w : World) (h : vd a b c d e = true) :
    Calls Try.prog 107 #[dy a b c d e] w fun ee w' => ee = .returned (.bool true) ∧ Below w.heap.size w w' := by
  obtain ⟨h1, h2, h3⟩ := vd_iff.1 h
  by_cases h0 : e = 0
  · subst h0; exact g2_z a b c d w h1
  · exact g2_o a b c d e w h1 ⟨by omega, by omega⟩ (h3.resolve_left h0)
/-- valid or not, whatever the exponent -/
def vi (a b c d e : Int) : Bool := decide (0 ≤ e) && vd a b c d e.toNat
theorem vi_nat {a b c d : Int} {e : Nat} : vi a b c d e = vd a b c d e := by unfold vi; simp
theorem vi_cases {a b c d e : Int} : vi a b c d e = false ∨ ∃ n : Nat, e = n ∧ vd a b c d n = true := by
  cases h : vi a b c d e
  · exact Or.inl rfl
  · unfold vi at h; simp only [Bool.and_eq_true, decide_eq_true_eq] at h; exact Or.inr ⟨e.toNat, by omega, h.2⟩
theorem g2_no {a b c d e : Int} (w : World) (h : vi a b c d e = false) :
    Calls Try.prog 107 #[dy a b c d e] w fun ee w' => ee = .returned (.bool false) ∧ Below w.heap.size w w' := by
  cases hx : vr a b c d
  · exact g2_f a b c d e w hx
  · by_cases h0 : e < 0
    · exact g2_n a b c d e w hx h0
    · by_cases h1 : 60 < e
      · exact g2_m a b c d e w hx h1
      · obtain ⟨n, rfl⟩ : ∃ n : Nat, e = n := ⟨e.toNat, by omega⟩
        rw [vi_nat] at h
        have hn : ¬ (n = 0 ∨ ev2 a b c d = false) := fun hh => by rw [vd_iff.2 ⟨hx, by omega, hh⟩] at h; cases h
        exact g2_e a b c d n w hx ⟨by omega, by omega⟩ (by simp only [not_or] at hn; simpa using hn.2)
end Go.Proofs.Ytofclfgaekjonaa
