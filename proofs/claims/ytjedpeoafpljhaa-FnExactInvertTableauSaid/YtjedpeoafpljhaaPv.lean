/- Validity of Pauli operators. -/
import Derived.Test.YtjedpeoafpljhaaPf
import Derived.Test.YtjedpeoafpljhaaQGa
namespace Go.Proofs.Ytjedpeoafpljhaa.C4
open Go.RowKit
set_option linter.unusedVariables false
set_option linter.unusedSimpArgs false
attribute [local irreducible] World.setCell

/-- 2^n -/
def pw (n : Nat) : Nat := 2 ^ n
theorem pw_pos (n : Nat) : 1 ≤ pw n := Nat.one_le_two_pow
theorem pw_32 {n : Nat} (h : n ≤ 5) : pw n ≤ 32 := Nat.pow_le_pow_right (by decide) h
theorem pw_w {n : Nat} (h : n ≤ 5) : wrap64 ((2 : Int) ^ n) = (pw n : Int) := by
  rcases (show n = 0 ∨ n = 1 ∨ n = 2 ∨ n = 3 ∨ n = 4 ∨ n = 5 by omega) with rfl | rfl | rfl | rfl | rfl | rfl <;> decide +kernel
theorem pw_k {n : Nat} (h : n ≤ 5) : IntKind.i64.wrap ((2 : Int) ^ n) = (pw n : Int) := by
  rcases (show n = 0 ∨ n = 1 ∨ n = 2 ∨ n = 3 ∨ n = 4 ∨ n = 5 by omega) with rfl | rfl | rfl | rfl | rfl | rfl <;> decide +kernel
/-- a Pauli operator that is valid for n qubits -/
def pB (n : Int) (x : PauliV) : Bool := inB n 1 5 && (inB x.f0 0 3 && (inB x.f1 0 ((pw n.toNat : Int) - 1) && inB x.f2 0 ((pw n.toNat : Int) - 1)))
set_option maxRecDepth 100000 in
set_option maxHeartbeats 2000000 in
theorem iqs {n : Nat} {x : Int} {t : Bool} (h5 : n ≤ 5) (h : inB x 0 ((pw n : Int) - 1) = t) (w : World) :
    Calls Try.prog 132 #[.int .i64 (n : Int), .int .i64 x] w fun ee w' => ee = .returned (.bool t) ∧ w = w' := by
  have h1 := pw_pos n
  have h2 := pw_32 h5
  have e1 := pw_w h5
  have e2 := pw_k h5
  have H := lay h
  clear h
  generalize pw n = M at *
  go_enter Try.func132, Try.ntmps132
  by_cases h3 : 0 ≤ x
  · go_wp2_with (fail)
    go_ret
    refine ⟨ret_bool (by rw [← H.out]; unfold inB; first | (simp [h3]; done) | (simp [h3]; omega) | (simp; omega)), rfl⟩
  · go_wp2_with (fail)
    go_ret
    refine ⟨ret_bool (by rw [← H.out]; unfold inB; first | (simp [h3]; done) | (simp [h3]; omega) | (simp; omega)), rfl⟩

set_option maxRecDepth 100000 in
set_option maxHeartbeats 4000000 in
theorem ivp {n : Int} {x : PauliV} {t : Bool} (h : pB n x = t) (w : World) :
    Calls Try.prog 73 #[.int .i64 n, x.v] w fun ee w' => ee = .returned (.bool t) ∧ Below w.heap.size w w' := by
  cases hq : inB n 1 5
  · have HT : Hid (false = t) := by rw [← h]; unfold pB; rw [hq]; rfl
    have HQ := lay hq
    clear h hq
    go_enter Try.func73, Try.ntmps73
    go_wp2_with ((go_at_call 131; ((with_reducible refine (iqc HQ.out _).mono ?_); rintro ee w1 ⟨rfl, rfl⟩)))
    go_ret
    refine ⟨ret_bool HT.out, ?_⟩
    (repeat' (first | (with_reducible exact Below.refl _ _) | (with_reducible assumption) | (with_reducible refine Below.alloc ?_ ?_ _) | (with_reducible refine Below.drew ?_) | (with_reducible refine bdN ?_ _) | (with_reducible refine Below.setCell ?_ ?_ _) | (with_reducible refine chn ?_ (by assumption) ?_) | omega | (simp; done) | (simp; omega)))
  obtain ⟨q1, q5⟩ := inB_iff.1 hq
  obtain ⟨k, rfl⟩ := Int.eq_ofNat_of_zero_le (show 0 ≤ n by omega)
  have h5 : k ≤ 5 := by omega
  have e1 := pw_w h5
  have e2 := pw_k h5
  have m1 := pw_pos k
  have m2 := pw_32 h5
  have hS : (inB x.f0 0 3 && (inB x.f1 0 ((pw k : Int) - 1) && inB x.f2 0 ((pw k : Int) - 1))) = t := by rw [← h]; unfold pB; rw [hq]; rfl
  clear h
  have HQ := lay hq
  clear hq
  cases ha : inB x.f0 0 3
  · have HT : Hid (false = t) := by rw [← hS, ha]; rfl
    have HA := lay ha
    clear hS
    by_cases h8 : 0 ≤ x.f0
    · have h9 : ¬ (x.f0 < 4) := by intro h9; have := inB_t h8 (show x.f0 ≤ 3 by omega); rw [this] at ha; cases ha
      clear ha
      go_enter Try.func73, Try.ntmps73
      go_wp2_with (first | (go_at_call 131; ((with_reducible refine (iqc HQ.out _).mono ?_); rintro ee w1 ⟨rfl, rfl⟩)) | fail)
      go_ret
      refine ⟨ret_bool HT.out, ?_⟩
      (repeat' (first | (with_reducible exact Below.refl _ _) | (with_reducible assumption) | (with_reducible refine Below.alloc ?_ ?_ _) | (with_reducible refine Below.drew ?_) | (with_reducible refine bdN ?_ _) | (with_reducible refine Below.setCell ?_ ?_ _) | (with_reducible refine chn ?_ (by assumption) ?_) | omega | (simp; done) | (simp; omega)))
    · clear ha
      go_enter Try.func73, Try.ntmps73
      go_wp2_with (first | (go_at_call 131; ((with_reducible refine (iqc HQ.out _).mono ?_); rintro ee w1 ⟨rfl, rfl⟩)) | fail)
      go_ret
      refine ⟨ret_bool HT.out, ?_⟩
      (repeat' (first | (with_reducible exact Below.refl _ _) | (with_reducible assumption) | (with_reducible refine Below.alloc ?_ ?_ _) | (with_reducible refine Below.drew ?_) | (with_reducible refine bdN ?_ _) | (with_reducible refine Below.setCell ?_ ?_ _) | (with_reducible refine chn ?_ (by assumption) ?_) | omega | (simp; done) | (simp; omega)))
  cases hb : inB x.f1 0 ((pw k : Int) - 1)
  · have HT : Hid (false = t) := by rw [← hS, ha, hb]; rfl
    have HA := lay ha
    have HB := lay hb
    clear hS hb
    obtain ⟨h8, h9⟩ := inB_iff.1 ha
    have h9 : x.f0 < 4 := by omega
    clear ha
    go_enter Try.func73, Try.ntmps73
    go_wp2_with (first | (go_at_call 131; ((with_reducible refine (iqc HQ.out _).mono ?_); rintro ee w1 ⟨rfl, rfl⟩)) | (go_at_call 132; ((with_reducible refine (iqs h5 HB.out _).mono ?_); rintro ee w1 ⟨rfl, rfl⟩)))
    go_ret
    refine ⟨ret_bool HT.out, ?_⟩
    (repeat' (first | (with_reducible exact Below.refl _ _) | (with_reducible assumption) | (with_reducible refine Below.alloc ?_ ?_ _) | (with_reducible refine Below.drew ?_) | (with_reducible refine bdN ?_ _) | (with_reducible refine Below.setCell ?_ ?_ _) | (with_reducible refine chn ?_ (by assumption) ?_) | omega | (simp; done) | (simp; omega)))
  cases hc : inB x.f2 0 ((pw k : Int) - 1)
  · have HT : Hid (false = t) := by rw [← hS, ha, hb, hc]; rfl
    have HA := lay ha
    have HB := lay hb
    have HC := lay hc
    clear hS hb hc
    obtain ⟨h8, h9⟩ := inB_iff.1 ha
    have h9 : x.f0 < 4 := by omega
    clear ha
    go_enter Try.func73, Try.ntmps73
    go_wp2_with (first | (go_at_call 131; ((with_reducible refine (iqc HQ.out _).mono ?_); rintro ee w1 ⟨rfl, rfl⟩)) | (go_at_call 132; ((with_reducible refine (iqs h5 HB.out _).mono ?_); rintro ee w1 ⟨rfl, rfl⟩)) | (go_at_call 132; ((with_reducible refine (iqs h5 HC.out _).mono ?_); rintro ee w1 ⟨rfl, rfl⟩)))
    go_ret
    refine ⟨ret_bool HT.out, ?_⟩
    (repeat' (first | (with_reducible exact Below.refl _ _) | (with_reducible assumption) | (with_reducible refine Below.alloc ?_ ?_ _) | (with_reducible refine Below.drew ?_) | (with_reducible refine bdN ?_ _) | (with_reducible refine Below.setCell ?_ ?_ _) | (with_reducible refine chn ?_ (by assumption) ?_) | omega | (simp; done) | (simp; omega)))
  · have HT : Hid (true = t) := by rw [← hS, ha, hb, hc]; rfl
    have HA := lay ha
    have HB := lay hb
    have HC := lay hc
    clear hS hb hc
    obtain ⟨h8, h9⟩ := inB_iff.1 ha
    have h9 : x.f0 < 4 := by omega
    clear ha
    go_enter Try.func73, Try.ntmps73
    go_wp2_with (first | (go_at_call 131; ((with_reducible refine (iqc HQ.out _).mono ?_); rintro ee w1 ⟨rfl, rfl⟩)) | (go_at_call 132; ((with_reducible refine (iqs h5 HB.out _).mono ?_); rintro ee w1 ⟨rfl, rfl⟩)) | (go_at_call 132; ((with_reducible refine (iqs h5 HC.out _).mono ?_); rintro ee w1 ⟨rfl, rfl⟩)))
    go_ret
    refine ⟨ret_bool HT.out, ?_⟩
    (repeat' (first | (with_reducible exact Below.refl _ _) | (with_reducible assumption) | (with_reducible refine Below.alloc ?_ ?_ _) | (with_reducible refine Below.drew ?_) | (with_reducible refine bdN ?_ _) | (with_reducible refine Below.setCell ?_ ?_ _) | (with_reducible refine chn ?_ (by assumption) ?_) | omega | (simp; done) | (simp; omega)))
set_option maxRecDepth 100000 in
set_option maxHeartbeats 4000000 in
theorem l7v {n : Int} {x : PauliV} {t : Bool} (h : pB n x = t) (w : World) :
    Calls Try.prog 71 #[.int .i64 n, x.v] w fun ee w' => ee = .returned (.bool t) ∧ Below w.heap.size w w' := by
  cases hq : inB n 1 5
  · have HT : Hid (false = t) := by rw [← h]; unfold pB; rw [hq]; rfl
    have HQ := lay hq
    clear h hq
    go_enter Try.func71, Try.ntmps71
    go_wp2_with ((go_at_call 128; ((with_reducible refine (lin (x := n) HQ.out _).mono ?_); rintro ee w1 ⟨rfl, rfl⟩)))
    go_ret
    refine ⟨ret_bool HT.out, ?_⟩
    (repeat' (first | (with_reducible exact Below.refl _ _) | (with_reducible assumption) | (with_reducible refine Below.alloc ?_ ?_ _) | (with_reducible refine Below.drew ?_) | (with_reducible refine bdN ?_ _) | (with_reducible refine Below.setCell ?_ ?_ _) | (with_reducible refine chn ?_ (by assumption) ?_) | omega | (simp; done) | (simp; omega)))
  obtain ⟨q1, q5⟩ := inB_iff.1 hq
  obtain ⟨k, rfl⟩ := Int.eq_ofNat_of_zero_le (show 0 ≤ n by omega)
  have h5 : k ≤ 5 := by omega
  have e1 := pw_w h5
  have e2 := pw_k h5
  have m1 := pw_pos k
  have m2 := pw_32 h5
  have hS : (inB x.f0 0 3 && (inB x.f1 0 ((pw k : Int) - 1) && inB x.f2 0 ((pw k : Int) - 1))) = t := by rw [← h]; unfold pB; rw [hq]; rfl
  clear h
  have HQ := lay hq
  clear hq
  cases ha : inB x.f0 0 3
  · have HT : Hid (false = t) := by rw [← hS, ha]; rfl
    have HA := lay ha
    clear hS
    clear ha
    go_enter Try.func71, Try.ntmps71
    go_wp2_with (first | (go_at_call 128; ((with_reducible refine (lin (x := (k : Int)) HQ.out _).mono ?_); rintro ee w1 ⟨rfl, rfl⟩)) | (go_at_call 128; ((with_reducible refine (lin (x := x.f0) HA.out _).mono ?_); rintro ee w1 ⟨rfl, rfl⟩)))
    go_ret
    refine ⟨ret_bool HT.out, ?_⟩
    (repeat' (first | (with_reducible exact Below.refl _ _) | (with_reducible assumption) | (with_reducible refine Below.alloc ?_ ?_ _) | (with_reducible refine Below.drew ?_) | (with_reducible refine bdN ?_ _) | (with_reducible refine Below.setCell ?_ ?_ _) | (with_reducible refine chn ?_ (by assumption) ?_) | omega | (simp; done) | (simp; omega)))
  cases hb : inB x.f1 0 ((pw k : Int) - 1)
  · have HT : Hid (false = t) := by rw [← hS, ha, hb]; rfl
    have HA := lay ha
    have HB := lay hb
    clear hS hb
    clear ha
    go_enter Try.func71, Try.ntmps71
    go_wp2_with (first | (go_at_call 128; ((with_reducible refine (lin (x := (k : Int)) HQ.out _).mono ?_); rintro ee w1 ⟨rfl, rfl⟩)) | (go_at_call 128; ((with_reducible refine (lin (x := x.f0) HA.out _).mono ?_); rintro ee w1 ⟨rfl, rfl⟩)) | (go_at_call 128; ((with_reducible refine (lin (x := x.f1) HB.out _).mono ?_); rintro ee w1 ⟨rfl, rfl⟩)))
    go_ret
    refine ⟨ret_bool HT.out, ?_⟩
    (repeat' (first | (with_reducible exact Below.refl _ _) | (with_reducible assumption) | (with_reducible refine Below.alloc ?_ ?_ _) | (with_reducible refine Below.drew ?_) | (with_reducible refine bdN ?_ _) | (with_reducible refine Below.setCell ?_ ?_ _) | (with_reducible refine chn ?_ (by assumption) ?_) | omega | (simp; done) | (simp; omega)))
  cases hc : inB x.f2 0 ((pw k : Int) - 1)
  · have HT : Hid (false = t) := by rw [← hS, ha, hb, hc]; rfl
    have HA := lay ha
    have HB := lay hb
    have HC := lay hc
    clear hS hb hc
    clear ha
    go_enter Try.func71, Try.ntmps71
    go_wp2_with (first | (go_at_call 128; ((with_reducible refine (lin (x := (k : Int)) HQ.out _).mono ?_); rintro ee w1 ⟨rfl, rfl⟩)) | (go_at_call 128; ((with_reducible refine (lin (x := x.f0) HA.out _).mono ?_); rintro ee w1 ⟨rfl, rfl⟩)) | (go_at_call 128; ((with_reducible refine (lin (x := x.f1) HB.out _).mono ?_); rintro ee w1 ⟨rfl, rfl⟩)) | (go_at_call 128; ((with_reducible refine (lin (x := x.f2) HC.out _).mono ?_); rintro ee w1 ⟨rfl, rfl⟩)))
    go_ret
    refine ⟨ret_bool HT.out, ?_⟩
    (repeat' (first | (with_reducible exact Below.refl _ _) | (with_reducible assumption) | (with_reducible refine Below.alloc ?_ ?_ _) | (with_reducible refine Below.drew ?_) | (with_reducible refine bdN ?_ _) | (with_reducible refine Below.setCell ?_ ?_ _) | (with_reducible refine chn ?_ (by assumption) ?_) | omega | (simp; done) | (simp; omega)))
  · have HT : Hid (true = t) := by rw [← hS, ha, hb, hc]; rfl
    have HA := lay ha
    have HB := lay hb
    have HC := lay hc
    clear hS hb hc
    clear ha
    go_enter Try.func71, Try.ntmps71
    go_wp2_with (first | (go_at_call 128; ((with_reducible refine (lin (x := (k : Int)) HQ.out _).mono ?_); rintro ee w1 ⟨rfl, rfl⟩)) | (go_at_call 128; ((with_reducible refine (lin (x := x.f0) HA.out _).mono ?_); rintro ee w1 ⟨rfl, rfl⟩)) | (go_at_call 128; ((with_reducible refine (lin (x := x.f1) HB.out _).mono ?_); rintro ee w1 ⟨rfl, rfl⟩)) | (go_at_call 128; ((with_reducible refine (lin (x := x.f2) HC.out _).mono ?_); rintro ee w1 ⟨rfl, rfl⟩)))
    go_ret
    refine ⟨ret_bool HT.out, ?_⟩
    (repeat' (first | (with_reducible exact Below.refl _ _) | (with_reducible assumption) | (with_reducible refine Below.alloc ?_ ?_ _) | (with_reducible refine Below.drew ?_) | (with_reducible refine bdN ?_ _) | (with_reducible refine Below.setCell ?_ ?_ _) | (with_reducible refine chn ?_ (by assumption) ?_) | omega | (simp; done) | (simp; omega)))
end Go.Proofs.Ytjedpeoafpljhaa.C4
