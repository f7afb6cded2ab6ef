/- Contracts of the validity of a matrix: what fails ahead of its numbers. -/
import Derived.Test.YtofclfgaekjonaaVm1
import Derived.Deep.RegionWith
import Derived.Deep.LoopGhost
namespace Go.Proofs.Ytofclfgaekjonaa
open Go.RowKit RM
set_option linter.unusedVariables false
set_option linter.unusedSimpArgs false
attribute [local irreducible] World.setCell

set_option maxRecDepth 100000 in
set_option maxHeartbeats 4000000 in
theorem vm_s_r {r c : Int} {A : Option Addr} {n cp : Nat} (hr : dimB r = false) (w : World) :
    Calls Try.prog 57 #[mv r c A n cp] w fun ee w' => ee = .returned (.bool false) ∧ Below w.heap.size w w' := by
  have HR := hid hr
  clear hr
  go_enter Try.func57, Try.ntmps57
  go_wp2_with ((go_at_call 106; ((with_reducible refine (dm_s_f HR.out _).mono ?_); rintro ee w1 ⟨rfl, hb1⟩; obtain ⟨hc1, hf1, _⟩ := bcell hb1; have hz1 := hb1.size; (try simp at hz1); (try have hx10 : w.heap.size < w1.heap.size := (by omega)); (try have hx11 : w.heap.size + 1 < w1.heap.size := (by omega)); (try have hx12 : w.heap.size + 1 + 1 < w1.heap.size := (by omega)); (try have hx13 : w.heap.size + 1 + 1 + 1 < w1.heap.size := (by omega)))))
  go_ret
  refine ⟨rfl, ?_⟩
  (repeat' (first | (with_reducible exact Below.refl _ _) | (with_reducible assumption) | (with_reducible refine Below.alloc ?_ ?_ _) | (with_reducible refine Below.drew ?_) | (with_reducible refine below_drewN ?_ _) | (with_reducible refine Below.setCell ?_ ?_ _) | (with_reducible refine chain ?_ (by assumption) ?_) | omega | (simp; done) | (simp; omega)))

set_option maxRecDepth 100000 in
set_option maxHeartbeats 4000000 in
theorem vm_s_c {r c : Int} {A : Option Addr} {n cp : Nat} (hr : dimB r = true) (hc : dimB c = false) (w : World) :
    Calls Try.prog 57 #[mv r c A n cp] w fun ee w' => ee = .returned (.bool false) ∧ Below w.heap.size w w' := by
  have HR := hid hr
  clear hr
  have HC := hid hc
  clear hc
  go_enter Try.func57, Try.ntmps57
  go_wp2_with (first | (go_at_call_of 106 (Value.int IntKind.i64 r); ((with_reducible refine (dm_s_t HR.out _).mono ?_); rintro ee w1 ⟨rfl, hb1⟩; obtain ⟨hc1, hf1, _⟩ := bcell hb1; have hz1 := hb1.size; (try simp at hz1); (try have hx10 : w.heap.size < w1.heap.size := (by omega)); (try have hx11 : w.heap.size + 1 < w1.heap.size := (by omega)); (try have hx12 : w.heap.size + 1 + 1 < w1.heap.size := (by omega)); (try have hx13 : w.heap.size + 1 + 1 + 1 < w1.heap.size := (by omega)))) | (go_at_call_of 106 (Value.int IntKind.i64 c); ((with_reducible refine (dm_s_f HC.out _).mono ?_); rintro ee w2 ⟨rfl, hb2⟩; obtain ⟨hc2, hf2, _⟩ := bcell hb2; have hz2 := hb2.size; (try simp at hz2); (try have hx20 : w.heap.size < w2.heap.size := (by omega)); (try have hx21 : w.heap.size + 1 < w2.heap.size := (by omega)); (try have hx22 : w.heap.size + 1 + 1 < w2.heap.size := (by omega)); (try have hx23 : w.heap.size + 1 + 1 + 1 < w2.heap.size := (by omega)))))
  go_ret
  refine ⟨rfl, ?_⟩
  (repeat' (first | (with_reducible exact Below.refl _ _) | (with_reducible assumption) | (with_reducible refine Below.alloc ?_ ?_ _) | (with_reducible refine Below.drew ?_) | (with_reducible refine below_drewN ?_ _) | (with_reducible refine Below.setCell ?_ ?_ _) | (with_reducible refine chain ?_ (by assumption) ?_) | omega | (simp; done) | (simp; omega)))

set_option maxRecDepth 100000 in
set_option maxHeartbeats 4000000 in
theorem vm_s_n {r c : Int} {A : Option Addr} {n cp : Nat} (hr : dimB r = true) (hc : dimB c = true) (hnn : (n : Int) ≠ r * c) (w : World) :
    Calls Try.prog 57 #[mv r c A n cp] w fun ee w' => ee = .returned (.bool false) ∧ Below w.heap.size w w' := by
  obtain ⟨r0, r1, c0, c1, p0, p1⟩ := prod_bd hr hc
  have hq : ((n : Int) != r * c) = true := by simp; exact hnn
  clear hnn
  have HR := hid hr
  clear hr
  have HC := hid hc
  clear hc
  go_enter Try.func57, Try.ntmps57
  go_wp2_with (first | (go_at_call_of 106 (Value.int IntKind.i64 r); ((with_reducible refine (dm_s_t HR.out _).mono ?_); rintro ee w1 ⟨rfl, hb1⟩; obtain ⟨hc1, hf1, _⟩ := bcell hb1; have hz1 := hb1.size; (try simp at hz1); (try have hx10 : w.heap.size < w1.heap.size := (by omega)); (try have hx11 : w.heap.size + 1 < w1.heap.size := (by omega)); (try have hx12 : w.heap.size + 1 + 1 < w1.heap.size := (by omega)); (try have hx13 : w.heap.size + 1 + 1 + 1 < w1.heap.size := (by omega)))) | (go_at_call_of 106 (Value.int IntKind.i64 c); ((with_reducible refine (dm_s_t HC.out _).mono ?_); rintro ee w2 ⟨rfl, hb2⟩; obtain ⟨hc2, hf2, _⟩ := bcell hb2; have hz2 := hb2.size; (try simp at hz2); (try have hx20 : w.heap.size < w2.heap.size := (by omega)); (try have hx21 : w.heap.size + 1 < w2.heap.size := (by omega)); (try have hx22 : w.heap.size + 1 + 1 < w2.heap.size := (by omega)); (try have hx23 : w.heap.size + 1 + 1 + 1 < w2.heap.size := (by omega)))))
  go_ret
  refine ⟨rfl, ?_⟩
  (repeat' (first | (with_reducible exact Below.refl _ _) | (with_reducible assumption) | (with_reducible refine Below.alloc ?_ ?_ _) | (with_reducible refine Below.drew ?_) | (with_reducible refine below_drewN ?_ _) | (with_reducible refine Below.setCell ?_ ?_ _) | (with_reducible refine chain ?_ (by assumption) ?_) | omega | (simp; done) | (simp; omega)))

set_option maxRecDepth 100000 in
set_option maxHeartbeats 4000000 in
theorem vm_i_r {r c : Int} {A : Option Addr} {n cp : Nat} (hr : dimB r = false) (w : World) :
    Calls Try.prog 60 #[mv r c A n cp] w fun ee w' => ee = .returned (.bool false) ∧ Below w.heap.size w w' := by
  have HR := hid hr
  clear hr
  go_enter Try.func60, Try.ntmps60
  go_wp2_with ((go_at_call 110; ((with_reducible refine (dm_i_f HR.out _).mono ?_); rintro ee w1 ⟨rfl, hb1⟩; obtain ⟨hc1, hf1, _⟩ := bcell hb1; have hz1 := hb1.size; (try simp at hz1); (try have hx10 : w.heap.size < w1.heap.size := (by omega)); (try have hx11 : w.heap.size + 1 < w1.heap.size := (by omega)); (try have hx12 : w.heap.size + 1 + 1 < w1.heap.size := (by omega)); (try have hx13 : w.heap.size + 1 + 1 + 1 < w1.heap.size := (by omega)))))
  go_ret
  refine ⟨rfl, ?_⟩
  (repeat' (first | (with_reducible exact Below.refl _ _) | (with_reducible assumption) | (with_reducible refine Below.alloc ?_ ?_ _) | (with_reducible refine Below.drew ?_) | (with_reducible refine below_drewN ?_ _) | (with_reducible refine Below.setCell ?_ ?_ _) | (with_reducible refine chain ?_ (by assumption) ?_) | omega | (simp; done) | (simp; omega)))

set_option maxRecDepth 100000 in
set_option maxHeartbeats 4000000 in
theorem vm_i_c {r c : Int} {A : Option Addr} {n cp : Nat} (hr : dimB r = true) (hc : dimB c = false) (w : World) :
    Calls Try.prog 60 #[mv r c A n cp] w fun ee w' => ee = .returned (.bool false) ∧ Below w.heap.size w w' := by
  have HR := hid hr
  clear hr
  have HC := hid hc
  clear hc
  go_enter Try.func60, Try.ntmps60
  go_wp2_with (first | (go_at_call_of 110 (Value.int IntKind.i64 r); ((with_reducible refine (dm_i_t HR.out _).mono ?_); rintro ee w1 ⟨rfl, hb1⟩; obtain ⟨hc1, hf1, _⟩ := bcell hb1; have hz1 := hb1.size; (try simp at hz1); (try have hx10 : w.heap.size < w1.heap.size := (by omega)); (try have hx11 : w.heap.size + 1 < w1.heap.size := (by omega)); (try have hx12 : w.heap.size + 1 + 1 < w1.heap.size := (by omega)); (try have hx13 : w.heap.size + 1 + 1 + 1 < w1.heap.size := (by omega)))) | (go_at_call_of 110 (Value.int IntKind.i64 c); ((with_reducible refine (dm_i_f HC.out _).mono ?_); rintro ee w2 ⟨rfl, hb2⟩; obtain ⟨hc2, hf2, _⟩ := bcell hb2; have hz2 := hb2.size; (try simp at hz2); (try have hx20 : w.heap.size < w2.heap.size := (by omega)); (try have hx21 : w.heap.size + 1 < w2.heap.size := (by omega)); (try have hx22 : w.heap.size + 1 + 1 < w2.heap.size := (by omega)); (try have hx23 : w.heap.size + 1 + 1 + 1 < w2.heap.size := (by omega)))))
  go_ret
  refine ⟨rfl, ?_⟩
  (repeat' (first | (with_reducible exact Below.refl _ _) | (with_reducible assumption) | (with_reducible refine Below.alloc ?_ ?_ _) | (with_reducible refine Below.drew ?_) | (with_reducible refine below_drewN ?_ _) | (with_reducible refine Below.setCell ?_ ?_ _) | (with_reducible refine chain ?_ (by assumption) ?_) | omega | (simp; done) | (simp; omega)))

set_option maxRecDepth 100000 in
set_option maxHeartbeats 4000000 in
theorem vm_i_n {r c : Int} {A : Option Addr} {n cp : Nat} (hr : dimB r = true) (hc : dimB c = true) (hnn : (n : Int) ≠ r * c) (w : World) :
    Calls Try.prog 60 #[mv r c A n cp] w fun ee w' => ee = .returned (.bool false) ∧ Below w.heap.size w w' := by
  obtain ⟨r0, r1, c0, c1, p0, p1⟩ := prod_bd hr hc
  have hq : ((n : Int) != r * c) = true := by simp; exact hnn
  clear hnn
  have HR := hid hr
  clear hr
  have HC := hid hc
  clear hc
  go_enter Try.func60, Try.ntmps60
  go_wp2_with (first | (go_at_call_of 110 (Value.int IntKind.i64 r); ((with_reducible refine (dm_i_t HR.out _).mono ?_); rintro ee w1 ⟨rfl, hb1⟩; obtain ⟨hc1, hf1, _⟩ := bcell hb1; have hz1 := hb1.size; (try simp at hz1); (try have hx10 : w.heap.size < w1.heap.size := (by omega)); (try have hx11 : w.heap.size + 1 < w1.heap.size := (by omega)); (try have hx12 : w.heap.size + 1 + 1 < w1.heap.size := (by omega)); (try have hx13 : w.heap.size + 1 + 1 + 1 < w1.heap.size := (by omega)))) | (go_at_call_of 110 (Value.int IntKind.i64 c); ((with_reducible refine (dm_i_t HC.out _).mono ?_); rintro ee w2 ⟨rfl, hb2⟩; obtain ⟨hc2, hf2, _⟩ := bcell hb2; have hz2 := hb2.size; (try simp at hz2); (try have hx20 : w.heap.size < w2.heap.size := (by omega)); (try have hx21 : w.heap.size + 1 < w2.heap.size := (by omega)); (try have hx22 : w.heap.size + 1 + 1 < w2.heap.size := (by omega)); (try have hx23 : w.heap.size + 1 + 1 + 1 < w2.heap.size := (by omega)))))
  go_ret
  refine ⟨rfl, ?_⟩
  (repeat' (first | (with_reducible exact Below.refl _ _) | (with_reducible assumption) | (with_reducible refine Below.alloc ?_ ?_ _) | (with_reducible refine Below.drew ?_) | (with_reducible refine below_drewN ?_ _) | (with_reducible refine Below.setCell ?_ ?_ _) | (with_reducible refine chain ?_ (by assumption) ?_) | omega | (simp; done) | (simp; omega)))

set_option maxRecDepth 100000 in
set_option maxHeartbeats 4000000 in
theorem vm_s_l {r c : Int} {A : Option Addr} {n cp : Nat} {xs : List D5} {w : World} (hA : Rd w A xs) (hn : xs.length = n) (hr : dimB r = true) (hc : dimB c = true) (hnn : (n : Int) = r * c) :
    Calls Try.prog 57 #[mv r c A n cp] w fun ee w' => ee = .returned (.bool (allB xs)) ∧ Below w.heap.size w w' := by
  obtain ⟨r0, r1, c0, c1, p0, p1⟩ := prod_bd hr hc
  have hb : n ≤ 1024 := by omega
  have hq : ((n : Int) != r * c) = false := by simp; exact hnn
  clear hnn
  have HR := hid hr
  have HC := hid hc
  have HA := hid hA
  have HN := hid hn
  clear hr hc hA hn
  go_enter Try.func57, Try.ntmps57
  go_wp2_with (first | (go_at_call_of 106 (Value.int IntKind.i64 r); ((with_reducible refine (dm_s_t HR.out _).mono ?_); rintro ee w1 ⟨rfl, hb1⟩; obtain ⟨hc1, hf1, _⟩ := bcell hb1; have hz1 := hb1.size; (try simp at hz1); (try have hx10 : w.heap.size < w1.heap.size := (by omega)); (try have hx11 : w.heap.size + 1 < w1.heap.size := (by omega)); (try have hx12 : w.heap.size + 1 + 1 < w1.heap.size := (by omega)); (try have hx13 : w.heap.size + 1 + 1 + 1 < w1.heap.size := (by omega)))) | (go_at_call_of 106 (Value.int IntKind.i64 c); ((with_reducible refine (dm_s_t HC.out _).mono ?_); rintro ee w2 ⟨rfl, hb2⟩; obtain ⟨hc2, hf2, _⟩ := bcell hb2; have hz2 := hb2.size; (try simp at hz2); (try have hx20 : w.heap.size < w2.heap.size := (by omega)); (try have hx21 : w.heap.size + 1 < w2.heap.size := (by omega)); (try have hx22 : w.heap.size + 1 + 1 < w2.heap.size := (by omega)); (try have hx23 : w.heap.size + 1 + 1 + 1 < w2.heap.size := (by omega)))) | fail)
  have hB2 : Below w.heap.size w w2 := by (repeat' (first | (with_reducible exact Below.refl _ _) | (with_reducible assumption) | (with_reducible refine Below.alloc ?_ ?_ _) | (with_reducible refine Below.drew ?_) | (with_reducible refine below_drewN ?_ _) | (with_reducible refine Below.setCell ?_ ?_ _) | (with_reducible refine chain ?_ (by assumption) ?_) | omega | (simp; done) | (simp; omega)))
  generalize w2 = w3 at *
  go_loopg [29] n (fun k s1 wr => ∃ j : Nat, j + k = n ∧ s1 = .int .i64 (j : Int) ∧ Hid (allB (xs.take j) = true) ∧ Below w.heap.size w wr)
  case atStart => exact ⟨0, by omega, rfl, rfl, hB2⟩
  case round =>
    obtain ⟨j, hj, rfl, HJ, hB⟩ := hrel
    have hBz := hB.size
    cases gk with
    | zero =>
      obtain rfl : j = n := by omega
      have hall : allB xs = true := by have := HJ.out; rwa [List.take_of_length_le (by rw [HN.out]; exact Nat.le_refl _)] at this
      have HH := hid hall
      clear hall
      go_wp2_with (fail)
      go_ret
      exact ⟨by rw [HH.out]; rfl, hB⟩
    | succ m =>
      have hlt : j < n := by omega
      obtain ⟨x, hx⟩ : ∃ x, xs[j]? = some x := ⟨_, List.getElem?_eq_getElem (by rw [HN.out]; exact hlt)⟩
      obtain ⟨g, o, rfl, hC⟩ := HA.out j x hx
      obtain ⟨q0, q1, q2, q3, q4⟩ := hC.at_ (hB.block g hC.lt)
      clear hC
      have HX := hid hx
      clear hx
      cases hk : x.ok
      · have HK := hid hk
        clear hk
        go_wp2_with ((go_at_call 107; ((with_reducible refine (gd_f (x := x) HK.out _).mono ?_); rintro ee w4 ⟨rfl, hb4⟩)))
        go_ret
        refine ⟨by rw [all_not HX.out HK.out]; rfl, ?_⟩
        (repeat' (first | (with_reducible exact Below.refl _ _) | (with_reducible assumption) | (with_reducible refine Below.alloc ?_ ?_ _) | (with_reducible refine Below.drew ?_) | (with_reducible refine below_drewN ?_ _) | (with_reducible refine Below.setCell ?_ ?_ _) | (with_reducible refine chain ?_ (by assumption) ?_) | omega | (simp; done) | (simp; omega)))
      · have HK := hid hk
        clear hk
        go_wp2_with ((go_at_call 107; ((with_reducible refine (gd_t (x := x) HK.out _).mono ?_); rintro ee w4 ⟨rfl, hb4⟩)))
        go_roundg m
        case measure => omega
        case rel =>
          refine ⟨j + 1, by omega, by go_num, take_all HX.out HJ.out HK.out, ?_⟩
          (repeat' (first | (with_reducible exact Below.refl _ _) | (with_reducible assumption) | (with_reducible refine Below.alloc ?_ ?_ _) | (with_reducible refine Below.drew ?_) | (with_reducible refine below_drewN ?_ _) | (with_reducible refine Below.setCell ?_ ?_ _) | (with_reducible refine chain ?_ (by assumption) ?_) | omega | (simp; done) | (simp; omega)))

theorem vm_s {r c : Int} {A : Option Addr} {n cp : Nat} {xs : List D5} {w : World} (hA : Rd w A xs) (hn : xs.length = n) :
    Calls Try.prog 57 #[mv r c A n cp] w fun ee w' => ee = .returned (.bool (okM r c n xs)) ∧ Below w.heap.size w w' := by
  cases hr : dimB r
  · have : okM r c n xs = false := by unfold okM; rw [hr]; rfl
    rw [this]; exact vm_s_r hr w
  · cases hc : dimB c
    · have : okM r c n xs = false := by unfold okM; rw [hr, hc]; rfl
      rw [this]; exact vm_s_c hr hc w
    · by_cases hnn : (n : Int) = r * c
      · have : okM r c n xs = allB xs := by unfold okM; rw [hr, hc, decide_eq_true hnn]; rfl
        rw [this]; exact vm_s_l hA hn hr hc hnn
      · have : okM r c n xs = false := by unfold okM; rw [hr, hc, decide_eq_false hnn]; rfl
        rw [this]; exact vm_s_n hr hc hnn w
theorem vm_s_t {r c : Int} {A : Option Addr} {n cp : Nat} {xs : List D5} {w : World} (h : okM r c n xs = true) (hA : Rd w A xs) (hn : xs.length = n) :
    Calls Try.prog 57 #[mv r c A n cp] w fun ee w' => ee = .returned (.bool true) ∧ Below w.heap.size w w' := by
  have := vm_s (r := r) (c := c) (cp := cp) hA hn; rw [h] at this; exact this
theorem vm_s_f {r c : Int} {A : Option Addr} {n cp : Nat} {xs : List D5} {w : World} (h : okM r c n xs = false) (hA : Rd w A xs) (hn : xs.length = n) :
    Calls Try.prog 57 #[mv r c A n cp] w fun ee w' => ee = .returned (.bool false) ∧ Below w.heap.size w w' := by
  have := vm_s (r := r) (c := c) (cp := cp) hA hn; rw [h] at this; exact this

set_option maxRecDepth 100000 in
set_option maxHeartbeats 4000000 in
theorem vm_i_l {r c : Int} {A : Option Addr} {n cp : Nat} {xs : List D5} {w : World} (hA : Rd w A xs) (hn : xs.length = n) (hr : dimB r = true) (hc : dimB c = true) (hnn : (n : Int) = r * c) :
    Calls Try.prog 60 #[mv r c A n cp] w fun ee w' => ee = .returned (.bool (allB xs)) ∧ Below w.heap.size w w' := by
  obtain ⟨r0, r1, c0, c1, p0, p1⟩ := prod_bd hr hc
  have hb : n ≤ 1024 := by omega
  have hq : ((n : Int) != r * c) = false := by simp; exact hnn
  clear hnn
  have HR := hid hr
  have HC := hid hc
  have HA := hid hA
  have HN := hid hn
  clear hr hc hA hn
  go_enter Try.func60, Try.ntmps60
  go_wp2_with (first | (go_at_call_of 110 (Value.int IntKind.i64 r); ((with_reducible refine (dm_i_t HR.out _).mono ?_); rintro ee w1 ⟨rfl, hb1⟩; obtain ⟨hc1, hf1, _⟩ := bcell hb1; have hz1 := hb1.size; (try simp at hz1); (try have hx10 : w.heap.size < w1.heap.size := (by omega)); (try have hx11 : w.heap.size + 1 < w1.heap.size := (by omega)); (try have hx12 : w.heap.size + 1 + 1 < w1.heap.size := (by omega)); (try have hx13 : w.heap.size + 1 + 1 + 1 < w1.heap.size := (by omega)))) | (go_at_call_of 110 (Value.int IntKind.i64 c); ((with_reducible refine (dm_i_t HC.out _).mono ?_); rintro ee w2 ⟨rfl, hb2⟩; obtain ⟨hc2, hf2, _⟩ := bcell hb2; have hz2 := hb2.size; (try simp at hz2); (try have hx20 : w.heap.size < w2.heap.size := (by omega)); (try have hx21 : w.heap.size + 1 < w2.heap.size := (by omega)); (try have hx22 : w.heap.size + 1 + 1 < w2.heap.size := (by omega)); (try have hx23 : w.heap.size + 1 + 1 + 1 < w2.heap.size := (by omega)))) | fail)
  have hB2 : Below w.heap.size w w2 := by (repeat' (first | (with_reducible exact Below.refl _ _) | (with_reducible assumption) | (with_reducible refine Below.alloc ?_ ?_ _) | (with_reducible refine Below.drew ?_) | (with_reducible refine below_drewN ?_ _) | (with_reducible refine Below.setCell ?_ ?_ _) | (with_reducible refine chain ?_ (by assumption) ?_) | omega | (simp; done) | (simp; omega)))
  generalize w2 = w3 at *
  go_loopg [29] n (fun k s1 wr => ∃ j : Nat, j + k = n ∧ s1 = .int .i64 (j : Int) ∧ Hid (allB (xs.take j) = true) ∧ Below w.heap.size w wr)
  case atStart => exact ⟨0, by omega, rfl, rfl, hB2⟩
  case round =>
    obtain ⟨j, hj, rfl, HJ, hB⟩ := hrel
    have hBz := hB.size
    cases gk with
    | zero =>
      obtain rfl : j = n := by omega
      have hall : allB xs = true := by have := HJ.out; rwa [List.take_of_length_le (by rw [HN.out]; exact Nat.le_refl _)] at this
      have HH := hid hall
      clear hall
      go_wp2_with (fail)
      go_ret
      exact ⟨by rw [HH.out]; rfl, hB⟩
    | succ m =>
      have hlt : j < n := by omega
      obtain ⟨x, hx⟩ : ∃ x, xs[j]? = some x := ⟨_, List.getElem?_eq_getElem (by rw [HN.out]; exact hlt)⟩
      obtain ⟨g, o, rfl, hC⟩ := HA.out j x hx
      obtain ⟨q0, q1, q2, q3, q4⟩ := hC.at_ (hB.block g hC.lt)
      clear hC
      have HX := hid hx
      clear hx
      cases hk : x.ok
      · have HK := hid hk
        clear hk
        go_wp2_with ((go_at_call 71; ((with_reducible refine (id_f (x := x) HK.out _).mono ?_); rintro ee w4 ⟨rfl, hb4⟩)))
        go_ret
        refine ⟨by rw [all_not HX.out HK.out]; rfl, ?_⟩
        (repeat' (first | (with_reducible exact Below.refl _ _) | (with_reducible assumption) | (with_reducible refine Below.alloc ?_ ?_ _) | (with_reducible refine Below.drew ?_) | (with_reducible refine below_drewN ?_ _) | (with_reducible refine Below.setCell ?_ ?_ _) | (with_reducible refine chain ?_ (by assumption) ?_) | omega | (simp; done) | (simp; omega)))
      · have HK := hid hk
        clear hk
        go_wp2_with ((go_at_call 71; ((with_reducible refine (id_t (x := x) HK.out _).mono ?_); rintro ee w4 ⟨rfl, hb4⟩)))
        go_roundg m
        case measure => omega
        case rel =>
          refine ⟨j + 1, by omega, by go_num, take_all HX.out HJ.out HK.out, ?_⟩
          (repeat' (first | (with_reducible exact Below.refl _ _) | (with_reducible assumption) | (with_reducible refine Below.alloc ?_ ?_ _) | (with_reducible refine Below.drew ?_) | (with_reducible refine below_drewN ?_ _) | (with_reducible refine Below.setCell ?_ ?_ _) | (with_reducible refine chain ?_ (by assumption) ?_) | omega | (simp; done) | (simp; omega)))

theorem vm_i {r c : Int} {A : Option Addr} {n cp : Nat} {xs : List D5} {w : World} (hA : Rd w A xs) (hn : xs.length = n) :
    Calls Try.prog 60 #[mv r c A n cp] w fun ee w' => ee = .returned (.bool (okM r c n xs)) ∧ Below w.heap.size w w' := by
  cases hr : dimB r
  · have : okM r c n xs = false := by unfold okM; rw [hr]; rfl
    rw [this]; exact vm_i_r hr w
  · cases hc : dimB c
    · have : okM r c n xs = false := by unfold okM; rw [hr, hc]; rfl
      rw [this]; exact vm_i_c hr hc w
    · by_cases hnn : (n : Int) = r * c
      · have : okM r c n xs = allB xs := by unfold okM; rw [hr, hc, decide_eq_true hnn]; rfl
        rw [this]; exact vm_i_l hA hn hr hc hnn
      · have : okM r c n xs = false := by unfold okM; rw [hr, hc, decide_eq_false hnn]; rfl
        rw [this]; exact vm_i_n hr hc hnn w
theorem vm_i_t {r c : Int} {A : Option Addr} {n cp : Nat} {xs : List D5} {w : World} (h : okM r c n xs = true) (hA : Rd w A xs) (hn : xs.length = n) :
    Calls Try.prog 60 #[mv r c A n cp] w fun ee w' => ee = .returned (.bool true) ∧ Below w.heap.size w w' := by
  have := vm_i (r := r) (c := c) (cp := cp) hA hn; rw [h] at this; exact this
theorem vm_i_f {r c : Int} {A : Option Addr} {n cp : Nat} {xs : List D5} {w : World} (h : okM r c n xs = false) (hA : Rd w A xs) (hn : xs.length = n) :
    Calls Try.prog 60 #[mv r c A n cp] w fun ee w' => ee = .returned (.bool false) ∧ Below w.heap.size w w' := by
  have := vm_i (r := r) (c := c) (cp := cp) hA hn; rw [h] at this; exact this

end Go.Proofs.Ytofclfgaekjonaa
