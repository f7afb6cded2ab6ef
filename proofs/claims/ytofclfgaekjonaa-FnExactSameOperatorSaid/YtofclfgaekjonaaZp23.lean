/- QGa -/
import Derived.Test.YtofclfgaekjonaaZp1
namespace Go.Proofs.Ytofclfgaekjonaa.C4
open Go.RowKit
set_option linter.unusedVariables false
set_option linter.unusedSimpArgs false
attribute [local irreducible] World.setCell

/-- within bounds, both included -/
def inB (x lo hi : Int) : Bool := decide (lo ≤ x) && decide (x ≤ hi)
theorem inB_iff {x lo hi : Int} : inB x lo hi = true ↔ lo ≤ x ∧ x ≤ hi := by unfold inB; simp
theorem inB_t {x lo hi : Int} (h1 : lo ≤ x) (h2 : x ≤ hi) : inB x lo hi = true := inB_iff.2 ⟨h1, h2⟩
/-- a gate that is valid for n qubits -/
def gB (n : Int) (g : GateV) : Bool :=
  if 1 ≤ g.f0 ∧ g.f0 ≤ 8 then decide (0 ≤ g.f1 ∧ g.f1 < n ∧ g.f2 = 0)
  else if 9 ≤ g.f0 ∧ g.f0 ≤ 11 then decide (0 ≤ g.f1 ∧ g.f1 < n ∧ 0 ≤ g.f2 ∧ g.f2 < n ∧ g.f1 ≠ g.f2)
  else decide (g.f0 = 12 ∧ g.f1 = 0 ∧ g.f2 = 0)
theorem ret_bool {a b : Bool} (h : a = b) : Ending.returned (.bool a) = .returned (.bool b) := by rw [h]
theorem ret_int {k : IntKind} {a b : Int} (h : a = b) : Ending.returned (.int k a) = .returned (.int k b) := by rw [h]
set_option maxRecDepth 100000 in
set_option maxHeartbeats 2000000 in
theorem lin {x lo hi : Int} {t : Bool} (h : inB x lo hi = t) (w : World) :
    Calls Try.prog 100 #[.int .i64 x, .int .i64 lo, .int .i64 hi] w fun ee w' => ee = .returned (.bool t) ∧ w = w' := by
  go_enter Try.func100, Try.ntmps100
  have H := lay h
  clear h
  by_cases h1 : lo ≤ x
  · go_wp2_with (fail)
    go_ret
    refine ⟨ret_bool (by rw [← H.out]; unfold inB; first | (simp [h1]; done) | (simp [h1]; omega) | (simp; omega)), rfl⟩
  · go_wp2_with (fail)
    go_ret
    refine ⟨ret_bool (by rw [← H.out]; unfold inB; first | (simp [h1]; done) | (simp [h1]; omega) | (simp; omega)), rfl⟩

set_option maxRecDepth 100000 in
set_option maxHeartbeats 2000000 in
theorem iqc {n : Int} {t : Bool} (h : inB n 1 5 = t) (w : World) :
    Calls Try.prog 148 #[.int .i64 n] w fun ee w' => ee = .returned (.bool t) ∧ w = w' := by
  go_enter Try.func148, Try.ntmps148
  have H := lay h
  clear h
  by_cases h1 : 1 ≤ n
  · go_wp2_with (fail)
    go_ret
    refine ⟨ret_bool (by rw [← H.out]; unfold inB; first | (simp [h1]; done) | (simp [h1]; omega) | (simp; omega)), rfl⟩
  · go_wp2_with (fail)
    go_ret
    refine ⟨ret_bool (by rw [← H.out]; unfold inB; first | (simp [h1]; done) | (simp [h1]; omega) | (simp; omega)), rfl⟩

set_option maxRecDepth 100000 in
set_option maxHeartbeats 2000000 in
theorem iq {n q : Int} {t : Bool} (h : inB q 0 (n - 1) = t) (w : World) :
    Calls Try.prog 196 #[.int .i64 n, .int .i64 q] w fun ee w' => ee = .returned (.bool t) ∧ w = w' := by
  go_enter Try.func196, Try.ntmps196
  have H := lay h
  clear h
  by_cases h1 : 0 ≤ q
  · go_wp2_with (fail)
    go_ret
    refine ⟨ret_bool (by rw [← H.out]; unfold inB; first | (simp [h1]; done) | (simp [h1]; omega) | (simp; omega)), rfl⟩
  · go_wp2_with (fail)
    go_ret
    refine ⟨ret_bool (by rw [← H.out]; unfold inB; first | (simp [h1]; done) | (simp [h1]; omega) | (simp; omega)), rfl⟩

/-- how many qubits a gate of an existing kind acts on -/
def qa (g : GateV) : Int := if 9 ≤ g.f0 ∧ g.f0 ≤ 11 then 2 else if g.f0 = 12 then 0 else 1
set_option maxRecDepth 100000 in
set_option maxHeartbeats 2000000 in
theorem qat {g : GateV} {q : Int} (h : qa g = q) (w : World) :
    Calls Try.prog 195 #[g.v] w fun ee w' => ee = .returned (.int .i64 q) ∧ Below w.heap.size w w' := by
  obtain rfl := h
  by_cases h9 : g.f0 = 9
  · have H : Hid (qa g = 2) := by show qa g = 2; unfold qa; rw [if_pos (by omega)]
    go_enter Try.func195, Try.ntmps195
    go_wp2_with (fail)
    go_ret
    refine ⟨ret_int H.out.symm, ?_⟩
    (repeat' (first | (with_reducible exact Below.refl _ _) | (with_reducible assumption) | (with_reducible refine Below.alloc ?_ ?_ _) | (with_reducible refine Below.drew ?_) | (with_reducible refine bdN ?_ _) | (with_reducible refine Below.setCell ?_ ?_ _) | (with_reducible refine chn ?_ (by assumption) ?_) | omega | (simp; done) | (simp; omega)))
  by_cases h10 : g.f0 = 10
  · have H : Hid (qa g = 2) := by show qa g = 2; unfold qa; rw [if_pos (by omega)]
    go_enter Try.func195, Try.ntmps195
    go_wp2_with (fail)
    go_ret
    refine ⟨ret_int H.out.symm, ?_⟩
    (repeat' (first | (with_reducible exact Below.refl _ _) | (with_reducible assumption) | (with_reducible refine Below.alloc ?_ ?_ _) | (with_reducible refine Below.drew ?_) | (with_reducible refine bdN ?_ _) | (with_reducible refine Below.setCell ?_ ?_ _) | (with_reducible refine chn ?_ (by assumption) ?_) | omega | (simp; done) | (simp; omega)))
  by_cases h11 : g.f0 = 11
  · have H : Hid (qa g = 2) := by show qa g = 2; unfold qa; rw [if_pos (by omega)]
    go_enter Try.func195, Try.ntmps195
    go_wp2_with (fail)
    go_ret
    refine ⟨ret_int H.out.symm, ?_⟩
    (repeat' (first | (with_reducible exact Below.refl _ _) | (with_reducible assumption) | (with_reducible refine Below.alloc ?_ ?_ _) | (with_reducible refine Below.drew ?_) | (with_reducible refine bdN ?_ _) | (with_reducible refine Below.setCell ?_ ?_ _) | (with_reducible refine chn ?_ (by assumption) ?_) | omega | (simp; done) | (simp; omega)))
  by_cases h12 : g.f0 = 12
  · have H : Hid (qa g = 0) := by show qa g = 0; unfold qa; rw [if_neg (by omega), if_pos h12]
    go_enter Try.func195, Try.ntmps195
    go_wp2_with (fail)
    go_ret
    refine ⟨ret_int H.out.symm, ?_⟩
    (repeat' (first | (with_reducible exact Below.refl _ _) | (with_reducible assumption) | (with_reducible refine Below.alloc ?_ ?_ _) | (with_reducible refine Below.drew ?_) | (with_reducible refine bdN ?_ _) | (with_reducible refine Below.setCell ?_ ?_ _) | (with_reducible refine chn ?_ (by assumption) ?_) | omega | (simp; done) | (simp; omega)))
  · have H : Hid (qa g = 1) := by show qa g = 1; unfold qa; rw [if_neg (by omega), if_neg h12]
    go_enter Try.func195, Try.ntmps195
    go_wp2_with (fail)
    go_ret
    refine ⟨ret_int H.out.symm, ?_⟩
    (repeat' (first | (with_reducible exact Below.refl _ _) | (with_reducible assumption) | (with_reducible refine Below.alloc ?_ ?_ _) | (with_reducible refine Below.drew ?_) | (with_reducible refine bdN ?_ _) | (with_reducible refine Below.setCell ?_ ?_ _) | (with_reducible refine chn ?_ (by assumption) ?_) | omega | (simp; done) | (simp; omega)))

theorem gB_8 {n : Int} {g : GateV} (h : inB g.f0 1 8 = true) : gB n g = (inB g.f1 0 (n - 1) && decide (g.f2 = 0)) := by
  have := inB_iff.1 h
  unfold gB inB; rw [if_pos (by omega), Bool.eq_iff_iff]; simp; omega
theorem gB_11 {n : Int} {g : GateV} (h : inB g.f0 9 11 = true) : gB n g = (inB g.f1 0 (n - 1) && inB g.f2 0 (n - 1) && decide (g.f1 ≠ g.f2)) := by
  have := inB_iff.1 h
  unfold gB inB; rw [if_neg (by omega), if_pos (by omega), Bool.eq_iff_iff]; simp; omega
theorem gB_12 {n : Int} {g : GateV} (h : inB g.f0 1 8 = false) (h2 : inB g.f0 9 11 = false) : gB n g = (decide (g.f0 = 12) && decide (g.f1 = 0) && decide (g.f2 = 0)) := by
  have n1 : ¬ (1 ≤ g.f0 ∧ g.f0 ≤ 8) := fun k => by rw [inB_t k.1 k.2] at h; cases h
  have n2 : ¬ (9 ≤ g.f0 ∧ g.f0 ≤ 11) := fun k => by rw [inB_t k.1 k.2] at h2; cases h2
  unfold gB; rw [if_neg n1, if_neg n2, Bool.eq_iff_iff]; simp; omega
set_option maxRecDepth 100000 in
set_option maxHeartbeats 4000000 in
theorem lg {n : Int} {g : GateV} {t : Bool} (hg : gB n g = t) (hn : 1 ≤ n) (hn2 : n ≤ 5) (w : World) :
    Calls Try.prog 159 #[.int .i64 n, g.v] w fun ee w' => ee = .returned (.bool t) ∧ Below w.heap.size w w' := by
  cases k8 : inB g.f0 1 8
  · cases k11 : inB g.f0 9 11
    · rw [gB_12 k8 k11] at hg
      have HG := lay hg
      have HK8 := lay k8
      have HK11 := lay k11
      clear hg k8 k11
      by_cases c0 : g.f0 = 12
      · by_cases c1 : g.f1 = 0
        · by_cases c2 : g.f2 = 0
          · skip
            go_enter Try.func159, Try.ntmps159
            go_wp2_with (first | (go_at_call 100; ((with_reducible refine (lin HK8.out _).mono ?_); rintro ee w1 ⟨rfl, rfl⟩)) | (go_at_call 100; ((with_reducible refine (lin HK11.out _).mono ?_); rintro ee w1 ⟨rfl, rfl⟩)) | (go_at_call 100; ((with_reducible refine (lin HA.out _).mono ?_); rintro ee w1 ⟨rfl, rfl⟩)) | (go_at_call 100; ((with_reducible refine (lin HB.out _).mono ?_); rintro ee w1 ⟨rfl, rfl⟩)) | (go_at_call 100; ((with_reducible refine (lin (show inB 12 1 8 = false by decide) _).mono ?_); rintro ee w1 ⟨rfl, rfl⟩)) | (go_at_call 100; ((with_reducible refine (lin (show inB 12 9 11 = false by decide) _).mono ?_); rintro ee w1 ⟨rfl, rfl⟩)))
            go_ret
            refine ⟨ret_bool (by rw [← HG.out]; simp [c0, c1, c2]), ?_⟩
            (repeat' (first | (with_reducible exact Below.refl _ _) | (with_reducible assumption) | (with_reducible refine Below.alloc ?_ ?_ _) | (with_reducible refine Below.drew ?_) | (with_reducible refine bdN ?_ _) | (with_reducible refine Below.setCell ?_ ?_ _) | (with_reducible refine chn ?_ (by assumption) ?_) | omega | (simp; done) | (simp; omega)))
          · skip
            go_enter Try.func159, Try.ntmps159
            go_wp2_with (first | (go_at_call 100; ((with_reducible refine (lin HK8.out _).mono ?_); rintro ee w1 ⟨rfl, rfl⟩)) | (go_at_call 100; ((with_reducible refine (lin HK11.out _).mono ?_); rintro ee w1 ⟨rfl, rfl⟩)) | (go_at_call 100; ((with_reducible refine (lin HA.out _).mono ?_); rintro ee w1 ⟨rfl, rfl⟩)) | (go_at_call 100; ((with_reducible refine (lin HB.out _).mono ?_); rintro ee w1 ⟨rfl, rfl⟩)) | (go_at_call 100; ((with_reducible refine (lin (show inB 12 1 8 = false by decide) _).mono ?_); rintro ee w1 ⟨rfl, rfl⟩)) | (go_at_call 100; ((with_reducible refine (lin (show inB 12 9 11 = false by decide) _).mono ?_); rintro ee w1 ⟨rfl, rfl⟩)))
            go_ret
            refine ⟨ret_bool (by rw [← HG.out]; simp [c0, c1, c2]), ?_⟩
            (repeat' (first | (with_reducible exact Below.refl _ _) | (with_reducible assumption) | (with_reducible refine Below.alloc ?_ ?_ _) | (with_reducible refine Below.drew ?_) | (with_reducible refine bdN ?_ _) | (with_reducible refine Below.setCell ?_ ?_ _) | (with_reducible refine chn ?_ (by assumption) ?_) | omega | (simp; done) | (simp; omega)))
        · skip
          go_enter Try.func159, Try.ntmps159
          go_wp2_with (first | (go_at_call 100; ((with_reducible refine (lin HK8.out _).mono ?_); rintro ee w1 ⟨rfl, rfl⟩)) | (go_at_call 100; ((with_reducible refine (lin HK11.out _).mono ?_); rintro ee w1 ⟨rfl, rfl⟩)) | (go_at_call 100; ((with_reducible refine (lin HA.out _).mono ?_); rintro ee w1 ⟨rfl, rfl⟩)) | (go_at_call 100; ((with_reducible refine (lin HB.out _).mono ?_); rintro ee w1 ⟨rfl, rfl⟩)) | (go_at_call 100; ((with_reducible refine (lin (show inB 12 1 8 = false by decide) _).mono ?_); rintro ee w1 ⟨rfl, rfl⟩)) | (go_at_call 100; ((with_reducible refine (lin (show inB 12 9 11 = false by decide) _).mono ?_); rintro ee w1 ⟨rfl, rfl⟩)))
          go_ret
          refine ⟨ret_bool (by rw [← HG.out]; simp [c0, c1]), ?_⟩
          (repeat' (first | (with_reducible exact Below.refl _ _) | (with_reducible assumption) | (with_reducible refine Below.alloc ?_ ?_ _) | (with_reducible refine Below.drew ?_) | (with_reducible refine bdN ?_ _) | (with_reducible refine Below.setCell ?_ ?_ _) | (with_reducible refine chn ?_ (by assumption) ?_) | omega | (simp; done) | (simp; omega)))
      · skip
        go_enter Try.func159, Try.ntmps159
        go_wp2_with (first | (go_at_call 100; ((with_reducible refine (lin HK8.out _).mono ?_); rintro ee w1 ⟨rfl, rfl⟩)) | (go_at_call 100; ((with_reducible refine (lin HK11.out _).mono ?_); rintro ee w1 ⟨rfl, rfl⟩)) | (go_at_call 100; ((with_reducible refine (lin HA.out _).mono ?_); rintro ee w1 ⟨rfl, rfl⟩)) | (go_at_call 100; ((with_reducible refine (lin HB.out _).mono ?_); rintro ee w1 ⟨rfl, rfl⟩)) | (go_at_call 100; ((with_reducible refine (lin (show inB 12 1 8 = false by decide) _).mono ?_); rintro ee w1 ⟨rfl, rfl⟩)) | (go_at_call 100; ((with_reducible refine (lin (show inB 12 9 11 = false by decide) _).mono ?_); rintro ee w1 ⟨rfl, rfl⟩)))
        go_ret
        refine ⟨ret_bool (by rw [← HG.out]; simp [c0]), ?_⟩
        (repeat' (first | (with_reducible exact Below.refl _ _) | (with_reducible assumption) | (with_reducible refine Below.alloc ?_ ?_ _) | (with_reducible refine Below.drew ?_) | (with_reducible refine bdN ?_ _) | (with_reducible refine Below.setCell ?_ ?_ _) | (with_reducible refine chn ?_ (by assumption) ?_) | omega | (simp; done) | (simp; omega)))
    · rw [gB_11 k11] at hg
      have HG := lay hg
      have HK8 := lay k8
      have HK11 := lay k11
      clear hg k8 k11
      cases hA : inB g.f1 0 (n - 1)
      · have HA := lay hA
        clear hA
        go_enter Try.func159, Try.ntmps159
        go_wp2_with (first | (go_at_call 100; ((with_reducible refine (lin HK8.out _).mono ?_); rintro ee w1 ⟨rfl, rfl⟩)) | (go_at_call 100; ((with_reducible refine (lin HK11.out _).mono ?_); rintro ee w1 ⟨rfl, rfl⟩)) | (go_at_call 100; ((with_reducible refine (lin HA.out _).mono ?_); rintro ee w1 ⟨rfl, rfl⟩)) | (go_at_call 100; ((with_reducible refine (lin HB.out _).mono ?_); rintro ee w1 ⟨rfl, rfl⟩)) | (go_at_call 100; ((with_reducible refine (lin (show inB 12 1 8 = false by decide) _).mono ?_); rintro ee w1 ⟨rfl, rfl⟩)) | (go_at_call 100; ((with_reducible refine (lin (show inB 12 9 11 = false by decide) _).mono ?_); rintro ee w1 ⟨rfl, rfl⟩)))
        go_ret
        refine ⟨ret_bool (by rw [← HG.out]; simp [HA.out]), ?_⟩
        (repeat' (first | (with_reducible exact Below.refl _ _) | (with_reducible assumption) | (with_reducible refine Below.alloc ?_ ?_ _) | (with_reducible refine Below.drew ?_) | (with_reducible refine bdN ?_ _) | (with_reducible refine Below.setCell ?_ ?_ _) | (with_reducible refine chn ?_ (by assumption) ?_) | omega | (simp; done) | (simp; omega)))
      · have HA := lay hA
        clear hA
        cases hB : inB g.f2 0 (n - 1)
        · have HB := lay hB
          clear hB
          go_enter Try.func159, Try.ntmps159
          go_wp2_with (first | (go_at_call 100; ((with_reducible refine (lin HK8.out _).mono ?_); rintro ee w1 ⟨rfl, rfl⟩)) | (go_at_call 100; ((with_reducible refine (lin HK11.out _).mono ?_); rintro ee w1 ⟨rfl, rfl⟩)) | (go_at_call 100; ((with_reducible refine (lin HA.out _).mono ?_); rintro ee w1 ⟨rfl, rfl⟩)) | (go_at_call 100; ((with_reducible refine (lin HB.out _).mono ?_); rintro ee w1 ⟨rfl, rfl⟩)) | (go_at_call 100; ((with_reducible refine (lin (show inB 12 1 8 = false by decide) _).mono ?_); rintro ee w1 ⟨rfl, rfl⟩)) | (go_at_call 100; ((with_reducible refine (lin (show inB 12 9 11 = false by decide) _).mono ?_); rintro ee w1 ⟨rfl, rfl⟩)))
          go_ret
          refine ⟨ret_bool (by rw [← HG.out]; simp [HA.out, HB.out]), ?_⟩
          (repeat' (first | (with_reducible exact Below.refl _ _) | (with_reducible assumption) | (with_reducible refine Below.alloc ?_ ?_ _) | (with_reducible refine Below.drew ?_) | (with_reducible refine bdN ?_ _) | (with_reducible refine Below.setCell ?_ ?_ _) | (with_reducible refine chn ?_ (by assumption) ?_) | omega | (simp; done) | (simp; omega)))
        · have HB := lay hB
          clear hB
          by_cases c1 : g.f1 = g.f2
          · skip
            go_enter Try.func159, Try.ntmps159
            go_wp2_with (first | (go_at_call 100; ((with_reducible refine (lin HK8.out _).mono ?_); rintro ee w1 ⟨rfl, rfl⟩)) | (go_at_call 100; ((with_reducible refine (lin HK11.out _).mono ?_); rintro ee w1 ⟨rfl, rfl⟩)) | (go_at_call 100; ((with_reducible refine (lin HA.out _).mono ?_); rintro ee w1 ⟨rfl, rfl⟩)) | (go_at_call 100; ((with_reducible refine (lin HB.out _).mono ?_); rintro ee w1 ⟨rfl, rfl⟩)) | (go_at_call 100; ((with_reducible refine (lin (show inB 12 1 8 = false by decide) _).mono ?_); rintro ee w1 ⟨rfl, rfl⟩)) | (go_at_call 100; ((with_reducible refine (lin (show inB 12 9 11 = false by decide) _).mono ?_); rintro ee w1 ⟨rfl, rfl⟩)))
            go_ret
            refine ⟨ret_bool (by rw [← HG.out]; simp [HA.out, HB.out, c1]), ?_⟩
            (repeat' (first | (with_reducible exact Below.refl _ _) | (with_reducible assumption) | (with_reducible refine Below.alloc ?_ ?_ _) | (with_reducible refine Below.drew ?_) | (with_reducible refine bdN ?_ _) | (with_reducible refine Below.setCell ?_ ?_ _) | (with_reducible refine chn ?_ (by assumption) ?_) | omega | (simp; done) | (simp; omega)))
          · skip
            go_enter Try.func159, Try.ntmps159
            go_wp2_with (first | (go_at_call 100; ((with_reducible refine (lin HK8.out _).mono ?_); rintro ee w1 ⟨rfl, rfl⟩)) | (go_at_call 100; ((with_reducible refine (lin HK11.out _).mono ?_); rintro ee w1 ⟨rfl, rfl⟩)) | (go_at_call 100; ((with_reducible refine (lin HA.out _).mono ?_); rintro ee w1 ⟨rfl, rfl⟩)) | (go_at_call 100; ((with_reducible refine (lin HB.out _).mono ?_); rintro ee w1 ⟨rfl, rfl⟩)) | (go_at_call 100; ((with_reducible refine (lin (show inB 12 1 8 = false by decide) _).mono ?_); rintro ee w1 ⟨rfl, rfl⟩)) | (go_at_call 100; ((with_reducible refine (lin (show inB 12 9 11 = false by decide) _).mono ?_); rintro ee w1 ⟨rfl, rfl⟩)))
            go_ret
            refine ⟨ret_bool (by rw [← HG.out]; simp [HA.out, HB.out, c1]), ?_⟩
            (repeat' (first | (with_reducible exact Below.refl _ _) | (with_reducible assumption) | (with_reducible refine Below.alloc ?_ ?_ _) | (with_reducible refine Below.drew ?_) | (with_reducible refine bdN ?_ _) | (with_reducible refine Below.setCell ?_ ?_ _) | (with_reducible refine chn ?_ (by assumption) ?_) | omega | (simp; done) | (simp; omega)))
  · rw [gB_8 k8] at hg
    have HG := lay hg
    have HK8 := lay k8
    clear hg k8
    cases hA : inB g.f1 0 (n - 1)
    · have HA := lay hA
      clear hA
      go_enter Try.func159, Try.ntmps159
      go_wp2_with (first | (go_at_call 100; ((with_reducible refine (lin HK8.out _).mono ?_); rintro ee w1 ⟨rfl, rfl⟩)) | (go_at_call 100; ((with_reducible refine (lin HK11.out _).mono ?_); rintro ee w1 ⟨rfl, rfl⟩)) | (go_at_call 100; ((with_reducible refine (lin HA.out _).mono ?_); rintro ee w1 ⟨rfl, rfl⟩)) | (go_at_call 100; ((with_reducible refine (lin HB.out _).mono ?_); rintro ee w1 ⟨rfl, rfl⟩)) | (go_at_call 100; ((with_reducible refine (lin (show inB 12 1 8 = false by decide) _).mono ?_); rintro ee w1 ⟨rfl, rfl⟩)) | (go_at_call 100; ((with_reducible refine (lin (show inB 12 9 11 = false by decide) _).mono ?_); rintro ee w1 ⟨rfl, rfl⟩)))
      go_ret
      refine ⟨ret_bool (by rw [← HG.out]; simp [HA.out]), ?_⟩
      (repeat' (first | (with_reducible exact Below.refl _ _) | (with_reducible assumption) | (with_reducible refine Below.alloc ?_ ?_ _) | (with_reducible refine Below.drew ?_) | (with_reducible refine bdN ?_ _) | (with_reducible refine Below.setCell ?_ ?_ _) | (with_reducible refine chn ?_ (by assumption) ?_) | omega | (simp; done) | (simp; omega)))
    · have HA := lay hA
      clear hA
      by_cases c2 : g.f2 = 0
      · skip
        go_enter Try.func159, Try.ntmps159
        go_wp2_with (first | (go_at_call 100; ((with_reducible refine (lin HK8.out _).mono ?_); rintro ee w1 ⟨rfl, rfl⟩)) | (go_at_call 100; ((with_reducible refine (lin HK11.out _).mono ?_); rintro ee w1 ⟨rfl, rfl⟩)) | (go_at_call 100; ((with_reducible refine (lin HA.out _).mono ?_); rintro ee w1 ⟨rfl, rfl⟩)) | (go_at_call 100; ((with_reducible refine (lin HB.out _).mono ?_); rintro ee w1 ⟨rfl, rfl⟩)) | (go_at_call 100; ((with_reducible refine (lin (show inB 12 1 8 = false by decide) _).mono ?_); rintro ee w1 ⟨rfl, rfl⟩)) | (go_at_call 100; ((with_reducible refine (lin (show inB 12 9 11 = false by decide) _).mono ?_); rintro ee w1 ⟨rfl, rfl⟩)))
        go_ret
        refine ⟨ret_bool (by rw [← HG.out]; simp [HA.out, c2]), ?_⟩
        (repeat' (first | (with_reducible exact Below.refl _ _) | (with_reducible assumption) | (with_reducible refine Below.alloc ?_ ?_ _) | (with_reducible refine Below.drew ?_) | (with_reducible refine bdN ?_ _) | (with_reducible refine Below.setCell ?_ ?_ _) | (with_reducible refine chn ?_ (by assumption) ?_) | omega | (simp; done) | (simp; omega)))
      · skip
        go_enter Try.func159, Try.ntmps159
        go_wp2_with (first | (go_at_call 100; ((with_reducible refine (lin HK8.out _).mono ?_); rintro ee w1 ⟨rfl, rfl⟩)) | (go_at_call 100; ((with_reducible refine (lin HK11.out _).mono ?_); rintro ee w1 ⟨rfl, rfl⟩)) | (go_at_call 100; ((with_reducible refine (lin HA.out _).mono ?_); rintro ee w1 ⟨rfl, rfl⟩)) | (go_at_call 100; ((with_reducible refine (lin HB.out _).mono ?_); rintro ee w1 ⟨rfl, rfl⟩)) | (go_at_call 100; ((with_reducible refine (lin (show inB 12 1 8 = false by decide) _).mono ?_); rintro ee w1 ⟨rfl, rfl⟩)) | (go_at_call 100; ((with_reducible refine (lin (show inB 12 9 11 = false by decide) _).mono ?_); rintro ee w1 ⟨rfl, rfl⟩)))
        go_ret
        refine ⟨ret_bool (by rw [← HG.out]; simp [HA.out, c2]), ?_⟩
        (repeat' (first | (with_reducible exact Below.refl _ _) | (with_reducible assumption) | (with_reducible refine Below.alloc ?_ ?_ _) | (with_reducible refine Below.drew ?_) | (with_reducible refine bdN ?_ _) | (with_reducible refine Below.setCell ?_ ?_ _) | (with_reducible refine chn ?_ (by assumption) ?_) | omega | (simp; done) | (simp; omega)))

theorem qa_8 {g : GateV} (h : inB g.f0 1 8 = true) : qa g = 1 := by
  have := inB_iff.1 h; unfold qa; rw [if_neg (by omega), if_neg (by omega)]
theorem qa_11 {g : GateV} (h : inB g.f0 9 11 = true) : qa g = 2 := by
  have := inB_iff.1 h; unfold qa; rw [if_pos (by omega)]
theorem qa_12 {g : GateV} (h : g.f0 = 12) : qa g = 0 := by unfold qa; rw [if_neg (by omega), if_pos h]
/-- a gate that is valid for n qubits, n whatever -/
def vgB (n : Int) (g : GateV) : Bool := inB n 1 5 && gB n g
set_option maxRecDepth 100000 in
set_option maxHeartbeats 4000000 in
theorem ivg {n : Int} {g : GateV} {t : Bool} (hg : vgB n g = t) (w : World) :
    Calls Try.prog 162 #[.int .i64 n, g.v] w fun ee w' => ee = .returned (.bool t) ∧ Below w.heap.size w w' := by
  cases hq : inB n 1 5
  · have HG : Hid (false = t) := by rw [← hg]; unfold vgB; rw [hq]; rfl
    have HQ := lay hq
    clear hg hq
    go_enter Try.func162, Try.ntmps162
    go_wp2_with (first | (go_at_call 148; ((with_reducible refine (iqc HQ.out _).mono ?_); rintro ee w1 ⟨rfl, rfl⟩)) | (go_at_call 196; ((with_reducible refine (iq HA.out _).mono ?_); rintro ee w1 ⟨rfl, rfl⟩)) | (go_at_call 196; ((with_reducible refine (iq HB.out _).mono ?_); rintro ee w1 ⟨rfl, rfl⟩)) | (go_at_call 195; ((with_reducible refine (qat HN.out _).mono ?_); rintro ee w1 ⟨rfl, hb1⟩; obtain ⟨hc1, hf1, _⟩ := bcl hb1; have hz1 := hb1.size; (try simp at hz1); (try have hx10 : w.heap.size < w1.heap.size := (by omega)); (try have hx11 : w.heap.size + 1 < w1.heap.size := (by omega)); (try have hx12 : w.heap.size + 1 + 1 < w1.heap.size := (by omega)); (try have hx13 : w.heap.size + 1 + 1 + 1 < w1.heap.size := (by omega)))))
    go_ret
    refine ⟨ret_bool (by rw [← HG.out]), ?_⟩
    (repeat' (first | (with_reducible exact Below.refl _ _) | (with_reducible assumption) | (with_reducible refine Below.alloc ?_ ?_ _) | (with_reducible refine Below.drew ?_) | (with_reducible refine bdN ?_ _) | (with_reducible refine Below.setCell ?_ ?_ _) | (with_reducible refine chn ?_ (by assumption) ?_) | omega | (simp; done) | (simp; omega)))
  have hg2 : gB n g = t := by rw [← hg]; unfold vgB; rw [hq]; rfl
  clear hg
  have HQ := lay hq
  clear hq
  cases k8 : inB g.f0 1 8
  · cases k11 : inB g.f0 9 11
    · rw [gB_12 k8 k11] at hg2
      have HG := lay hg2
      by_cases c0 : g.f0 = 12
      · have hn := qa_12 c0
        have HN := lay hn
        have l1 : ¬ (g.f0 < 1) := by omega
        have l2 : ¬ (12 < g.f0) := by omega
        have C0 := lay c0
        clear hg2 k8 k11 hn c0
        cases c1 : (g.f1 == 0)
        · have C1 : Hid (¬ (g.f1 = 0)) := by show ¬ _; simpa using c1
          go_enter Try.func162, Try.ntmps162
          go_wp2_with (first | (go_at_call 148; ((with_reducible refine (iqc HQ.out _).mono ?_); rintro ee w1 ⟨rfl, rfl⟩)) | (go_at_call 196; ((with_reducible refine (iq HA.out _).mono ?_); rintro ee w1 ⟨rfl, rfl⟩)) | (go_at_call 196; ((with_reducible refine (iq HB.out _).mono ?_); rintro ee w1 ⟨rfl, rfl⟩)) | (go_at_call 195; ((with_reducible refine (qat HN.out _).mono ?_); rintro ee w1 ⟨rfl, hb1⟩; obtain ⟨hc1, hf1, _⟩ := bcl hb1; have hz1 := hb1.size; (try simp at hz1); (try have hx10 : w.heap.size < w1.heap.size := (by omega)); (try have hx11 : w.heap.size + 1 < w1.heap.size := (by omega)); (try have hx12 : w.heap.size + 1 + 1 < w1.heap.size := (by omega)); (try have hx13 : w.heap.size + 1 + 1 + 1 < w1.heap.size := (by omega)))))
          go_ret
          refine ⟨ret_bool (by rw [← HG.out]; simp [C0.out, C1.out]), ?_⟩
          (repeat' (first | (with_reducible exact Below.refl _ _) | (with_reducible assumption) | (with_reducible refine Below.alloc ?_ ?_ _) | (with_reducible refine Below.drew ?_) | (with_reducible refine bdN ?_ _) | (with_reducible refine Below.setCell ?_ ?_ _) | (with_reducible refine chn ?_ (by assumption) ?_) | omega | (simp; done) | (simp; omega)))
        · have C1 : Hid (g.f1 = 0) := by show _ = _; simpa using c1
          cases c2 : (g.f2 == 0)
          · have C2 : Hid (¬ (g.f2 = 0)) := by show ¬ _; simpa using c2
            go_enter Try.func162, Try.ntmps162
            go_wp2_with (first | (go_at_call 148; ((with_reducible refine (iqc HQ.out _).mono ?_); rintro ee w1 ⟨rfl, rfl⟩)) | (go_at_call 196; ((with_reducible refine (iq HA.out _).mono ?_); rintro ee w1 ⟨rfl, rfl⟩)) | (go_at_call 196; ((with_reducible refine (iq HB.out _).mono ?_); rintro ee w1 ⟨rfl, rfl⟩)) | (go_at_call 195; ((with_reducible refine (qat HN.out _).mono ?_); rintro ee w1 ⟨rfl, hb1⟩; obtain ⟨hc1, hf1, _⟩ := bcl hb1; have hz1 := hb1.size; (try simp at hz1); (try have hx10 : w.heap.size < w1.heap.size := (by omega)); (try have hx11 : w.heap.size + 1 < w1.heap.size := (by omega)); (try have hx12 : w.heap.size + 1 + 1 < w1.heap.size := (by omega)); (try have hx13 : w.heap.size + 1 + 1 + 1 < w1.heap.size := (by omega)))))
            go_ret
            refine ⟨ret_bool (by rw [← HG.out]; simp [C0.out, C1.out, C2.out]), ?_⟩
            (repeat' (first | (with_reducible exact Below.refl _ _) | (with_reducible assumption) | (with_reducible refine Below.alloc ?_ ?_ _) | (with_reducible refine Below.drew ?_) | (with_reducible refine bdN ?_ _) | (with_reducible refine Below.setCell ?_ ?_ _) | (with_reducible refine chn ?_ (by assumption) ?_) | omega | (simp; done) | (simp; omega)))
          · have C2 : Hid (g.f2 = 0) := by show _ = _; simpa using c2
            go_enter Try.func162, Try.ntmps162
            go_wp2_with (first | (go_at_call 148; ((with_reducible refine (iqc HQ.out _).mono ?_); rintro ee w1 ⟨rfl, rfl⟩)) | (go_at_call 196; ((with_reducible refine (iq HA.out _).mono ?_); rintro ee w1 ⟨rfl, rfl⟩)) | (go_at_call 196; ((with_reducible refine (iq HB.out _).mono ?_); rintro ee w1 ⟨rfl, rfl⟩)) | (go_at_call 195; ((with_reducible refine (qat HN.out _).mono ?_); rintro ee w1 ⟨rfl, hb1⟩; obtain ⟨hc1, hf1, _⟩ := bcl hb1; have hz1 := hb1.size; (try simp at hz1); (try have hx10 : w.heap.size < w1.heap.size := (by omega)); (try have hx11 : w.heap.size + 1 < w1.heap.size := (by omega)); (try have hx12 : w.heap.size + 1 + 1 < w1.heap.size := (by omega)); (try have hx13 : w.heap.size + 1 + 1 + 1 < w1.heap.size := (by omega)))))
            go_ret
            refine ⟨ret_bool (by rw [← HG.out]; simp [C0.out, C1.out, C2.out]), ?_⟩
            (repeat' (first | (with_reducible exact Below.refl _ _) | (with_reducible assumption) | (with_reducible refine Below.alloc ?_ ?_ _) | (with_reducible refine Below.drew ?_) | (with_reducible refine bdN ?_ _) | (with_reducible refine Below.setCell ?_ ?_ _) | (with_reducible refine chn ?_ (by assumption) ?_) | omega | (simp; done) | (simp; omega)))
      · have hlt : g.f0 < 1 ∨ 12 < g.f0 := by
          rcases Int.lt_or_le g.f0 1 with h | h
          · exact Or.inl h
          · rcases Int.lt_or_le 12 g.f0 with h2 | h2
            · exact Or.inr h2
            · exfalso
              by_cases h3 : g.f0 ≤ 8
              · rw [inB_t h h3] at k8; cases k8
              · rw [inB_t (by omega) (by omega)] at k11; cases k11
        have C0 := lay c0
        clear hg2 k8 k11 c0
        rcases hlt with hlt | hlt
        · skip
          go_enter Try.func162, Try.ntmps162
          go_wp2_with (first | (go_at_call 148; ((with_reducible refine (iqc HQ.out _).mono ?_); rintro ee w1 ⟨rfl, rfl⟩)) | (go_at_call 196; ((with_reducible refine (iq HA.out _).mono ?_); rintro ee w1 ⟨rfl, rfl⟩)) | (go_at_call 196; ((with_reducible refine (iq HB.out _).mono ?_); rintro ee w1 ⟨rfl, rfl⟩)) | (go_at_call 195; ((with_reducible refine (qat HN.out _).mono ?_); rintro ee w1 ⟨rfl, hb1⟩; obtain ⟨hc1, hf1, _⟩ := bcl hb1; have hz1 := hb1.size; (try simp at hz1); (try have hx10 : w.heap.size < w1.heap.size := (by omega)); (try have hx11 : w.heap.size + 1 < w1.heap.size := (by omega)); (try have hx12 : w.heap.size + 1 + 1 < w1.heap.size := (by omega)); (try have hx13 : w.heap.size + 1 + 1 + 1 < w1.heap.size := (by omega)))))
          go_ret
          refine ⟨ret_bool (by rw [← HG.out]; simp [C0.out]), ?_⟩
          (repeat' (first | (with_reducible exact Below.refl _ _) | (with_reducible assumption) | (with_reducible refine Below.alloc ?_ ?_ _) | (with_reducible refine Below.drew ?_) | (with_reducible refine bdN ?_ _) | (with_reducible refine Below.setCell ?_ ?_ _) | (with_reducible refine chn ?_ (by assumption) ?_) | omega | (simp; done) | (simp; omega)))
        · have hge : ¬ (g.f0 < 1) := by omega
          go_enter Try.func162, Try.ntmps162
          go_wp2_with (first | (go_at_call 148; ((with_reducible refine (iqc HQ.out _).mono ?_); rintro ee w1 ⟨rfl, rfl⟩)) | (go_at_call 196; ((with_reducible refine (iq HA.out _).mono ?_); rintro ee w1 ⟨rfl, rfl⟩)) | (go_at_call 196; ((with_reducible refine (iq HB.out _).mono ?_); rintro ee w1 ⟨rfl, rfl⟩)) | (go_at_call 195; ((with_reducible refine (qat HN.out _).mono ?_); rintro ee w1 ⟨rfl, hb1⟩; obtain ⟨hc1, hf1, _⟩ := bcl hb1; have hz1 := hb1.size; (try simp at hz1); (try have hx10 : w.heap.size < w1.heap.size := (by omega)); (try have hx11 : w.heap.size + 1 < w1.heap.size := (by omega)); (try have hx12 : w.heap.size + 1 + 1 < w1.heap.size := (by omega)); (try have hx13 : w.heap.size + 1 + 1 + 1 < w1.heap.size := (by omega)))))
          go_ret
          refine ⟨ret_bool (by rw [← HG.out]; simp [C0.out]), ?_⟩
          (repeat' (first | (with_reducible exact Below.refl _ _) | (with_reducible assumption) | (with_reducible refine Below.alloc ?_ ?_ _) | (with_reducible refine Below.drew ?_) | (with_reducible refine bdN ?_ _) | (with_reducible refine Below.setCell ?_ ?_ _) | (with_reducible refine chn ?_ (by assumption) ?_) | omega | (simp; done) | (simp; omega)))
    · rw [gB_11 k11] at hg2
      have HG := lay hg2
      have HN := lay (qa_11 k11)
      have l1 : ¬ (g.f0 < 1) := by have := inB_iff.1 k11; omega
      have l2 : ¬ (12 < g.f0) := by have := inB_iff.1 k11; omega
      clear hg2 k8 k11
      cases hA : inB g.f1 0 (n - 1)
      · have HA := lay hA
        clear hA
        go_enter Try.func162, Try.ntmps162
        go_wp2_with (first | (go_at_call 148; ((with_reducible refine (iqc HQ.out _).mono ?_); rintro ee w1 ⟨rfl, rfl⟩)) | (go_at_call 196; ((with_reducible refine (iq HA.out _).mono ?_); rintro ee w1 ⟨rfl, rfl⟩)) | (go_at_call 196; ((with_reducible refine (iq HB.out _).mono ?_); rintro ee w1 ⟨rfl, rfl⟩)) | (go_at_call 195; ((with_reducible refine (qat HN.out _).mono ?_); rintro ee w1 ⟨rfl, hb1⟩; obtain ⟨hc1, hf1, _⟩ := bcl hb1; have hz1 := hb1.size; (try simp at hz1); (try have hx10 : w.heap.size < w1.heap.size := (by omega)); (try have hx11 : w.heap.size + 1 < w1.heap.size := (by omega)); (try have hx12 : w.heap.size + 1 + 1 < w1.heap.size := (by omega)); (try have hx13 : w.heap.size + 1 + 1 + 1 < w1.heap.size := (by omega)))))
        go_ret
        refine ⟨ret_bool (by rw [← HG.out]; simp [HA.out]), ?_⟩
        (repeat' (first | (with_reducible exact Below.refl _ _) | (with_reducible assumption) | (with_reducible refine Below.alloc ?_ ?_ _) | (with_reducible refine Below.drew ?_) | (with_reducible refine bdN ?_ _) | (with_reducible refine Below.setCell ?_ ?_ _) | (with_reducible refine chn ?_ (by assumption) ?_) | omega | (simp; done) | (simp; omega)))
      · have HA := lay hA
        clear hA
        cases hB : inB g.f2 0 (n - 1)
        · have HB := lay hB
          clear hB
          go_enter Try.func162, Try.ntmps162
          go_wp2_with (first | (go_at_call 148; ((with_reducible refine (iqc HQ.out _).mono ?_); rintro ee w1 ⟨rfl, rfl⟩)) | (go_at_call 196; ((with_reducible refine (iq HA.out _).mono ?_); rintro ee w1 ⟨rfl, rfl⟩)) | (go_at_call 196; ((with_reducible refine (iq HB.out _).mono ?_); rintro ee w1 ⟨rfl, rfl⟩)) | (go_at_call 195; ((with_reducible refine (qat HN.out _).mono ?_); rintro ee w1 ⟨rfl, hb1⟩; obtain ⟨hc1, hf1, _⟩ := bcl hb1; have hz1 := hb1.size; (try simp at hz1); (try have hx10 : w.heap.size < w1.heap.size := (by omega)); (try have hx11 : w.heap.size + 1 < w1.heap.size := (by omega)); (try have hx12 : w.heap.size + 1 + 1 < w1.heap.size := (by omega)); (try have hx13 : w.heap.size + 1 + 1 + 1 < w1.heap.size := (by omega)))))
          go_ret
          refine ⟨ret_bool (by rw [← HG.out]; simp [HA.out, HB.out]), ?_⟩
          (repeat' (first | (with_reducible exact Below.refl _ _) | (with_reducible assumption) | (with_reducible refine Below.alloc ?_ ?_ _) | (with_reducible refine Below.drew ?_) | (with_reducible refine bdN ?_ _) | (with_reducible refine Below.setCell ?_ ?_ _) | (with_reducible refine chn ?_ (by assumption) ?_) | omega | (simp; done) | (simp; omega)))
        · have HB := lay hB
          clear hB
          cases c1 : (g.f1 == g.f2)
          · have C1 : Hid (¬ (g.f1 = g.f2)) := by show ¬ _; simpa using c1
            have c3 : (g.f1 != g.f2) = true := by simpa using c1
            go_enter Try.func162, Try.ntmps162
            go_wp2_with (first | (go_at_call 148; ((with_reducible refine (iqc HQ.out _).mono ?_); rintro ee w1 ⟨rfl, rfl⟩)) | (go_at_call 196; ((with_reducible refine (iq HA.out _).mono ?_); rintro ee w1 ⟨rfl, rfl⟩)) | (go_at_call 196; ((with_reducible refine (iq HB.out _).mono ?_); rintro ee w1 ⟨rfl, rfl⟩)) | (go_at_call 195; ((with_reducible refine (qat HN.out _).mono ?_); rintro ee w1 ⟨rfl, hb1⟩; obtain ⟨hc1, hf1, _⟩ := bcl hb1; have hz1 := hb1.size; (try simp at hz1); (try have hx10 : w.heap.size < w1.heap.size := (by omega)); (try have hx11 : w.heap.size + 1 < w1.heap.size := (by omega)); (try have hx12 : w.heap.size + 1 + 1 < w1.heap.size := (by omega)); (try have hx13 : w.heap.size + 1 + 1 + 1 < w1.heap.size := (by omega)))))
            go_ret
            refine ⟨ret_bool (by rw [← HG.out]; simp [HA.out, HB.out, C1.out]), ?_⟩
            (repeat' (first | (with_reducible exact Below.refl _ _) | (with_reducible assumption) | (with_reducible refine Below.alloc ?_ ?_ _) | (with_reducible refine Below.drew ?_) | (with_reducible refine bdN ?_ _) | (with_reducible refine Below.setCell ?_ ?_ _) | (with_reducible refine chn ?_ (by assumption) ?_) | omega | (simp; done) | (simp; omega)))
          · have C1 : Hid (g.f1 = g.f2) := by show _ = _; simpa using c1
            have c3 : (g.f1 != g.f2) = false := by simpa using c1
            go_enter Try.func162, Try.ntmps162
            go_wp2_with (first | (go_at_call 148; ((with_reducible refine (iqc HQ.out _).mono ?_); rintro ee w1 ⟨rfl, rfl⟩)) | (go_at_call 196; ((with_reducible refine (iq HA.out _).mono ?_); rintro ee w1 ⟨rfl, rfl⟩)) | (go_at_call 196; ((with_reducible refine (iq HB.out _).mono ?_); rintro ee w1 ⟨rfl, rfl⟩)) | (go_at_call 195; ((with_reducible refine (qat HN.out _).mono ?_); rintro ee w1 ⟨rfl, hb1⟩; obtain ⟨hc1, hf1, _⟩ := bcl hb1; have hz1 := hb1.size; (try simp at hz1); (try have hx10 : w.heap.size < w1.heap.size := (by omega)); (try have hx11 : w.heap.size + 1 < w1.heap.size := (by omega)); (try have hx12 : w.heap.size + 1 + 1 < w1.heap.size := (by omega)); (try have hx13 : w.heap.size + 1 + 1 + 1 < w1.heap.size := (by omega)))))
            go_ret
            refine ⟨ret_bool (by rw [← HG.out]; simp [HA.out, HB.out, C1.out]), ?_⟩
            (repeat' (first | (with_reducible exact Below.refl _ _) | (with_reducible assumption) | (with_reducible refine Below.alloc ?_ ?_ _) | (with_reducible refine Below.drew ?_) | (with_reducible refine bdN ?_ _) | (with_reducible refine Below.setCell ?_ ?_ _) | (with_reducible refine chn ?_ (by assumption) ?_) | omega | (simp; done) | (simp; omega)))
  · rw [gB_8 k8] at hg2
    have HG := lay hg2
    have HN := lay (qa_8 k8)
    have l1 : ¬ (g.f0 < 1) := by have := inB_iff.1 k8; omega
    have l2 : ¬ (12 < g.f0) := by have := inB_iff.1 k8; omega
    clear hg2 k8
    cases hA : inB g.f1 0 (n - 1)
    · have HA := lay hA
      clear hA
      go_enter Try.func162, Try.ntmps162
      go_wp2_with (first | (go_at_call 148; ((with_reducible refine (iqc HQ.out _).mono ?_); rintro ee w1 ⟨rfl, rfl⟩)) | (go_at_call 196; ((with_reducible refine (iq HA.out _).mono ?_); rintro ee w1 ⟨rfl, rfl⟩)) | (go_at_call 196; ((with_reducible refine (iq HB.out _).mono ?_); rintro ee w1 ⟨rfl, rfl⟩)) | (go_at_call 195; ((with_reducible refine (qat HN.out _).mono ?_); rintro ee w1 ⟨rfl, hb1⟩; obtain ⟨hc1, hf1, _⟩ := bcl hb1; have hz1 := hb1.size; (try simp at hz1); (try have hx10 : w.heap.size < w1.heap.size := (by omega)); (try have hx11 : w.heap.size + 1 < w1.heap.size := (by omega)); (try have hx12 : w.heap.size + 1 + 1 < w1.heap.size := (by omega)); (try have hx13 : w.heap.size + 1 + 1 + 1 < w1.heap.size := (by omega)))))
      go_ret
      refine ⟨ret_bool (by rw [← HG.out]; simp [HA.out]), ?_⟩
      (repeat' (first | (with_reducible exact Below.refl _ _) | (with_reducible assumption) | (with_reducible refine Below.alloc ?_ ?_ _) | (with_reducible refine Below.drew ?_) | (with_reducible refine bdN ?_ _) | (with_reducible refine Below.setCell ?_ ?_ _) | (with_reducible refine chn ?_ (by assumption) ?_) | omega | (simp; done) | (simp; omega)))
    · have HA := lay hA
      clear hA
      cases c2 : (g.f2 == 0)
      · have C2 : Hid (¬ (g.f2 = 0)) := by show ¬ _; simpa using c2
        go_enter Try.func162, Try.ntmps162
        go_wp2_with (first | (go_at_call 148; ((with_reducible refine (iqc HQ.out _).mono ?_); rintro ee w1 ⟨rfl, rfl⟩)) | (go_at_call 196; ((with_reducible refine (iq HA.out _).mono ?_); rintro ee w1 ⟨rfl, rfl⟩)) | (go_at_call 196; ((with_reducible refine (iq HB.out _).mono ?_); rintro ee w1 ⟨rfl, rfl⟩)) | (go_at_call 195; ((with_reducible refine (qat HN.out _).mono ?_); rintro ee w1 ⟨rfl, hb1⟩; obtain ⟨hc1, hf1, _⟩ := bcl hb1; have hz1 := hb1.size; (try simp at hz1); (try have hx10 : w.heap.size < w1.heap.size := (by omega)); (try have hx11 : w.heap.size + 1 < w1.heap.size := (by omega)); (try have hx12 : w.heap.size + 1 + 1 < w1.heap.size := (by omega)); (try have hx13 : w.heap.size + 1 + 1 + 1 < w1.heap.size := (by omega)))))
        go_ret
        refine ⟨ret_bool (by rw [← HG.out]; simp [HA.out, C2.out]), ?_⟩
        (repeat' (first | (with_reducible exact Below.refl _ _) | (with_reducible assumption) | (with_reducible refine Below.alloc ?_ ?_ _) | (with_reducible refine Below.drew ?_) | (with_reducible refine bdN ?_ _) | (with_reducible refine Below.setCell ?_ ?_ _) | (with_reducible refine chn ?_ (by assumption) ?_) | omega | (simp; done) | (simp; omega)))
      · have C2 : Hid (g.f2 = 0) := by show _ = _; simpa using c2
        go_enter Try.func162, Try.ntmps162
        go_wp2_with (first | (go_at_call 148; ((with_reducible refine (iqc HQ.out _).mono ?_); rintro ee w1 ⟨rfl, rfl⟩)) | (go_at_call 196; ((with_reducible refine (iq HA.out _).mono ?_); rintro ee w1 ⟨rfl, rfl⟩)) | (go_at_call 196; ((with_reducible refine (iq HB.out _).mono ?_); rintro ee w1 ⟨rfl, rfl⟩)) | (go_at_call 195; ((with_reducible refine (qat HN.out _).mono ?_); rintro ee w1 ⟨rfl, hb1⟩; obtain ⟨hc1, hf1, _⟩ := bcl hb1; have hz1 := hb1.size; (try simp at hz1); (try have hx10 : w.heap.size < w1.heap.size := (by omega)); (try have hx11 : w.heap.size + 1 < w1.heap.size := (by omega)); (try have hx12 : w.heap.size + 1 + 1 < w1.heap.size := (by omega)); (try have hx13 : w.heap.size + 1 + 1 + 1 < w1.heap.size := (by omega)))))
        go_ret
        refine ⟨ret_bool (by rw [← HG.out]; simp [HA.out, C2.out]), ?_⟩
        (repeat' (first | (with_reducible exact Below.refl _ _) | (with_reducible assumption) | (with_reducible refine Below.alloc ?_ ?_ _) | (with_reducible refine Below.drew ?_) | (with_reducible refine bdN ?_ _) | (with_reducible refine Below.setCell ?_ ?_ _) | (with_reducible refine chn ?_ (by assumption) ?_) | omega | (simp; done) | (simp; omega)))

end Go.Proofs.Ytofclfgaekjonaa.C4
