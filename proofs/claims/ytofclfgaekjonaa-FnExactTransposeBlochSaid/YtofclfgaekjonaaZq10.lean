/- Vm2, Tab, Bx, Ro, Rgx, Col -/
import Derived.Test.YtofclfgaekjonaaZq9
import Derived.Deep.RegionWith
import Derived.Deep.LoopGhost
import Derived.Test.YtofclfgaekjonaaZq3
import Derived.Test.YtofclfgaekjonaaZq4
import Derived.BigQuiet
import Derived.Deep.QuietTactic
import Derived.IntWalk
import Derived.OrdersHeld
import Derived.Deep.RegionHeld3
import Derived.Deep.RegionLaw
namespace Go.Proofs.Ytofclfgaekjonaa
open Go.RowKit RM
set_option linter.unusedVariables false
set_option linter.unusedSimpArgs false
attribute [local irreducible] World.setCell

set_option maxRecDepth 100000 in
set_option maxHeartbeats 4000000 in
theorem vm_s_r {r c : Int} {A : Option Addr} {n cp : Nat} (hr : dimB r = false) (w : World) :
    Calls Try.prog 57 #[mv r c A n cp] w fun ee w' => ee = .returned (.bool false) ∧ Below w.heap.size w w' := by
  have HR := hid hr
  clear hr
  go_enter Try.func57, Try.ntmps57
  go_wp2_with ((go_at_call 106; ((with_reducible refine (dm_s_f HR.out _).mono ?_); rintro ee w1 ⟨rfl, hb1⟩; obtain ⟨hc1, hf1, _⟩ := bcell hb1; have hz1 := hb1.size; (try simp at hz1); (try have hx10 : w.heap.size < w1.heap.size := (by omega)); (try have hx11 : w.heap.size + 1 < w1.heap.size := (by omega)); (try have hx12 : w.heap.size + 1 + 1 < w1.heap.size := (by omega)); (try have hx13 : w.heap.size + 1 + 1 + 1 < w1.heap.size := (by omega)))))
  go_ret
  refine ⟨rfl, ?_⟩
  (repeat' (first | (with_reducible exact Below.refl _ _) | (with_reducible assumption) | (with_reducible refine Below.alloc ?_ ?_ _) | (with_reducible refine Below.drew ?_) | (with_reducible refine below_drewN ?_ _) | (with_reducible refine Below.setCell ?_ ?_ _) | (with_reducible refine chain ?_ (by assumption) ?_) | omega | (simp; done) | (simp; omega)))

set_option maxRecDepth 100000 in
set_option maxHeartbeats 4000000 in
theorem vm_s_c {r c : Int} {A : Option Addr} {n cp : Nat} (hr : dimB r = true) (hc : dimB c = false) (w : World) :
    Calls Try.prog 57 #[mv r c A n cp] w fun ee w' => ee = .returned (.bool false) ∧ Below w.heap.size w w' := by
  have HR := hid hr
  clear hr
  have HC := hid hc
  clear hc
  go_enter Try.func57, Try.ntmps57
  go_wp2_with (first | (go_at_call_of 106 (Value.int IntKind.i64 r); ((with_reducible refine (dm_s_t HR.out _).mono ?_); rintro ee w1 ⟨rfl, hb1⟩; obtain ⟨hc1, hf1, _⟩ := bcell hb1; have hz1 := hb1.size; (try simp at hz1); (try have hx10 : w.heap.size < w1.heap.size := (by omega)); (try have hx11 : w.heap.size + 1 < w1.heap.size := (by omega)); (try have hx12 : w.heap.size + 1 + 1 < w1.heap.size := (by omega)); (try have hx13 : w.heap.size + 1 + 1 + 1 < w1.heap.size := (by omega)))) | (go_at_call_of 106 (Value.int IntKind.i64 c); ((with_reducible refine (dm_s_f HC.out _).mono ?_); rintro ee w2 ⟨rfl, hb2⟩; obtain ⟨hc2, hf2, _⟩ := bcell hb2; have hz2 := hb2.size; (try simp at hz2); (try have hx20 : w.heap.size < w2.heap.size := (by omega)); (try have hx21 : w.heap.size + 1 < w2.heap.size := (by omega)); (try have hx22 : w.heap.size + 1 + 1 < w2.heap.size := (by omega)); (try have hx23 : w.heap.size + 1 + 1 + 1 < w2.heap.size := (by omega)))))
  go_ret
  refine ⟨rfl, ?_⟩
  (repeat' (first | (with_reducible exact Below.refl _ _) | (with_reducible assumption) | (with_reducible refine Below.alloc ?_ ?_ _) | (with_reducible refine Below.drew ?_) | (with_reducible refine below_drewN ?_ _) | (with_reducible refine Below.setCell ?_ ?_ _) | (with_reducible refine chain ?_ (by assumption) ?_) | omega | (simp; done) | (simp; omega)))

set_option maxRecDepth 100000 in
set_option maxHeartbeats 4000000 in
theorem vm_s_n {r c : Int} {A : Option Addr} {n cp : Nat} (hr : dimB r = true) (hc : dimB c = true) (hnn : (n : Int) ≠ r * c) (w : World) :
    Calls Try.prog 57 #[mv r c A n cp] w fun ee w' => ee = .returned (.bool false) ∧ Below w.heap.size w w' := by
  obtain ⟨r0, r1, c0, c1, p0, p1⟩ := prod_bd hr hc
  have hq : ((n : Int) != r * c) = true := by simp; exact hnn
  clear hnn
  have HR := hid hr
  clear hr
  have HC := hid hc
  clear hc
  go_enter Try.func57, Try.ntmps57
  go_wp2_with (first | (go_at_call_of 106 (Value.int IntKind.i64 r); ((with_reducible refine (dm_s_t HR.out _).mono ?_); rintro ee w1 ⟨rfl, hb1⟩; obtain ⟨hc1, hf1, _⟩ := bcell hb1; have hz1 := hb1.size; (try simp at hz1); (try have hx10 : w.heap.size < w1.heap.size := (by omega)); (try have hx11 : w.heap.size + 1 < w1.heap.size := (by omega)); (try have hx12 : w.heap.size + 1 + 1 < w1.heap.size := (by omega)); (try have hx13 : w.heap.size + 1 + 1 + 1 < w1.heap.size := (by omega)))) | (go_at_call_of 106 (Value.int IntKind.i64 c); ((with_reducible refine (dm_s_t HC.out _).mono ?_); rintro ee w2 ⟨rfl, hb2⟩; obtain ⟨hc2, hf2, _⟩ := bcell hb2; have hz2 := hb2.size; (try simp at hz2); (try have hx20 : w.heap.size < w2.heap.size := (by omega)); (try have hx21 : w.heap.size + 1 < w2.heap.size := (by omega)); (try have hx22 : w.heap.size + 1 + 1 < w2.heap.size := (by omega)); (try have hx23 : w.heap.size + 1 + 1 + 1 < w2.heap.size := (by omega)))))
  go_ret
  refine ⟨rfl, ?_⟩
  (repeat' (first | (with_reducible exact Below.refl _ _) | (with_reducible assumption) | (with_reducible refine Below.alloc ?_ ?_ _) | (with_reducible refine Below.drew ?_) | (with_reducible refine below_drewN ?_ _) | (with_reducible refine Below.setCell ?_ ?_ _) | (with_reducible refine chain ?_ (by assumption) ?_) | omega | (simp; done) | (simp; omega)))

set_option maxRecDepth 100000 in
set_option maxHeartbeats 4000000 in
theorem vm_i_r {r c : Int} {A : Option Addr} {n cp : Nat} (hr : dimB r = false) (w : World) :
    Calls Try.prog 60 #[mv r c A n cp] w fun ee w' => ee = .returned (.bool false) ∧ Below w.heap.size w w' := by
  have HR := hid hr
  clear hr
  go_enter Try.func60, Try.ntmps60
  go_wp2_with ((go_at_call 110; ((with_reducible refine (dm_i_f HR.out _).mono ?_); rintro ee w1 ⟨rfl, hb1⟩; obtain ⟨hc1, hf1, _⟩ := bcell hb1; have hz1 := hb1.size; (try simp at hz1); (try have hx10 : w.heap.size < w1.heap.size := (by omega)); (try have hx11 : w.heap.size + 1 < w1.heap.size := (by omega)); (try have hx12 : w.heap.size + 1 + 1 < w1.heap.size := (by omega)); (try have hx13 : w.heap.size + 1 + 1 + 1 < w1.heap.size := (by omega)))))
  go_ret
  refine ⟨rfl, ?_⟩
  (repeat' (first | (with_reducible exact Below.refl _ _) | (with_reducible assumption) | (with_reducible refine Below.alloc ?_ ?_ _) | (with_reducible refine Below.drew ?_) | (with_reducible refine below_drewN ?_ _) | (with_reducible refine Below.setCell ?_ ?_ _) | (with_reducible refine chain ?_ (by assumption) ?_) | omega | (simp; done) | (simp; omega)))

set_option maxRecDepth 100000 in
set_option maxHeartbeats 4000000 in
theorem vm_i_c {r c : Int} {A : Option Addr} {n cp : Nat} (hr : dimB r = true) (hc : dimB c = false) (w : World) :
    Calls Try.prog 60 #[mv r c A n cp] w fun ee w' => ee = .returned (.bool false) ∧ Below w.heap.size w w' := by
  have HR := hid hr
  clear hr
  have HC := hid hc
  clear hc
  go_enter Try.func60, Try.ntmps60
  go_wp2_with (first | (go_at_call_of 110 (Value.int IntKind.i64 r); ((with_reducible refine (dm_i_t HR.out _).mono ?_); rintro ee w1 ⟨rfl, hb1⟩; obtain ⟨hc1, hf1, _⟩ := bcell hb1; have hz1 := hb1.size; (try simp at hz1); (try have hx10 : w.heap.size < w1.heap.size := (by omega)); (try have hx11 : w.heap.size + 1 < w1.heap.size := (by omega)); (try have hx12 : w.heap.size + 1 + 1 < w1.heap.size := (by omega)); (try have hx13 : w.heap.size + 1 + 1 + 1 < w1.heap.size := (by omega)))) | (go_at_call_of 110 (Value.int IntKind.i64 c); ((with_reducible refine (dm_i_f HC.out _).mono ?_); rintro ee w2 ⟨rfl, hb2⟩; obtain ⟨hc2, hf2, _⟩ := bcell hb2; have hz2 := hb2.size; (try simp at hz2); (try have hx20 : w.heap.size < w2.heap.size := (by omega)); (try have hx21 : w.heap.size + 1 < w2.heap.size := (by omega)); (try have hx22 : w.heap.size + 1 + 1 < w2.heap.size := (by omega)); (try have hx23 : w.heap.size + 1 + 1 + 1 < w2.heap.size := (by omega)))))
  go_ret
  refine ⟨rfl, ?_⟩
  (repeat' (first | (with_reducible exact Below.refl _ _) | (with_reducible assumption) | (with_reducible refine Below.alloc ?_ ?_ _) | (with_reducible refine Below.drew ?_) | (with_reducible refine below_drewN ?_ _) | (with_reducible refine Below.setCell ?_ ?_ _) | (with_reducible refine chain ?_ (by assumption) ?_) | omega | (simp; done) | (simp; omega)))

set_option maxRecDepth 100000 in
set_option maxHeartbeats 4000000 in
theorem vm_i_n {r c : Int} {A : Option Addr} {n cp : Nat} (hr : dimB r = true) (hc : dimB c = true) (hnn : (n : Int) ≠ r * c) (w : World) :
    Calls Try.prog 60 #[mv r c A n cp] w fun ee w' => ee = .returned (.bool false) ∧ Below w.heap.size w w' := by
  obtain ⟨r0, r1, c0, c1, p0, p1⟩ := prod_bd hr hc
  have hq : ((n : Int) != r * c) = true := by simp; exact hnn
  clear hnn
  have HR := hid hr
  clear hr
  have HC := hid hc
  clear hc
  go_enter Try.func60, Try.ntmps60
  go_wp2_with (first | (go_at_call_of 110 (Value.int IntKind.i64 r); ((with_reducible refine (dm_i_t HR.out _).mono ?_); rintro ee w1 ⟨rfl, hb1⟩; obtain ⟨hc1, hf1, _⟩ := bcell hb1; have hz1 := hb1.size; (try simp at hz1); (try have hx10 : w.heap.size < w1.heap.size := (by omega)); (try have hx11 : w.heap.size + 1 < w1.heap.size := (by omega)); (try have hx12 : w.heap.size + 1 + 1 < w1.heap.size := (by omega)); (try have hx13 : w.heap.size + 1 + 1 + 1 < w1.heap.size := (by omega)))) | (go_at_call_of 110 (Value.int IntKind.i64 c); ((with_reducible refine (dm_i_t HC.out _).mono ?_); rintro ee w2 ⟨rfl, hb2⟩; obtain ⟨hc2, hf2, _⟩ := bcell hb2; have hz2 := hb2.size; (try simp at hz2); (try have hx20 : w.heap.size < w2.heap.size := (by omega)); (try have hx21 : w.heap.size + 1 < w2.heap.size := (by omega)); (try have hx22 : w.heap.size + 1 + 1 < w2.heap.size := (by omega)); (try have hx23 : w.heap.size + 1 + 1 + 1 < w2.heap.size := (by omega)))))
  go_ret
  refine ⟨rfl, ?_⟩
  (repeat' (first | (with_reducible exact Below.refl _ _) | (with_reducible assumption) | (with_reducible refine Below.alloc ?_ ?_ _) | (with_reducible refine Below.drew ?_) | (with_reducible refine below_drewN ?_ _) | (with_reducible refine Below.setCell ?_ ?_ _) | (with_reducible refine chain ?_ (by assumption) ?_) | omega | (simp; done) | (simp; omega)))

set_option maxRecDepth 100000 in
set_option maxHeartbeats 4000000 in
theorem vm_s_l {r c : Int} {A : Option Addr} {n cp : Nat} {xs : List D5} {w : World} (hA : Rd w A xs) (hn : xs.length = n) (hr : dimB r = true) (hc : dimB c = true) (hnn : (n : Int) = r * c) :
    Calls Try.prog 57 #[mv r c A n cp] w fun ee w' => ee = .returned (.bool (allB xs)) ∧ Below w.heap.size w w' := by
  obtain ⟨r0, r1, c0, c1, p0, p1⟩ := prod_bd hr hc
  have hb : n ≤ 1024 := by omega
  have hq : ((n : Int) != r * c) = false := by simp; exact hnn
  clear hnn
  have HR := hid hr
  have HC := hid hc
  have HA := hid hA
  have HN := hid hn
  clear hr hc hA hn
  go_enter Try.func57, Try.ntmps57
  go_wp2_with (first | (go_at_call_of 106 (Value.int IntKind.i64 r); ((with_reducible refine (dm_s_t HR.out _).mono ?_); rintro ee w1 ⟨rfl, hb1⟩; obtain ⟨hc1, hf1, _⟩ := bcell hb1; have hz1 := hb1.size; (try simp at hz1); (try have hx10 : w.heap.size < w1.heap.size := (by omega)); (try have hx11 : w.heap.size + 1 < w1.heap.size := (by omega)); (try have hx12 : w.heap.size + 1 + 1 < w1.heap.size := (by omega)); (try have hx13 : w.heap.size + 1 + 1 + 1 < w1.heap.size := (by omega)))) | (go_at_call_of 106 (Value.int IntKind.i64 c); ((with_reducible refine (dm_s_t HC.out _).mono ?_); rintro ee w2 ⟨rfl, hb2⟩; obtain ⟨hc2, hf2, _⟩ := bcell hb2; have hz2 := hb2.size; (try simp at hz2); (try have hx20 : w.heap.size < w2.heap.size := (by omega)); (try have hx21 : w.heap.size + 1 < w2.heap.size := (by omega)); (try have hx22 : w.heap.size + 1 + 1 < w2.heap.size := (by omega)); (try have hx23 : w.heap.size + 1 + 1 + 1 < w2.heap.size := (by omega)))) | fail)
  have hB2 : Below w.heap.size w w2 := by (repeat' (first | (with_reducible exact Below.refl _ _) | (with_reducible assumption) | (with_reducible refine Below.alloc ?_ ?_ _) | (with_reducible refine Below.drew ?_) | (with_reducible refine below_drewN ?_ _) | (with_reducible refine Below.setCell ?_ ?_ _) | (with_reducible refine chain ?_ (by assumption) ?_) | omega | (simp; done) | (simp; omega)))
  generalize w2 = w3 at *
  go_loopg [29] n (fun k s1 wr => ∃ j : Nat, j + k = n ∧ s1 = .int .i64 (j : Int) ∧ Hid (allB (xs.take j) = true) ∧ Below w.heap.size w wr)
  case atStart => exact ⟨0, by omega, rfl, rfl, hB2⟩
  case round =>
    obtain ⟨j, hj, rfl, HJ, hB⟩ := hrel
    have hBz := hB.size
    cases gk with
    | zero =>
      obtain rfl : j = n := by omega
      have hall : allB xs = true := by have := HJ.out; rwa [List.take_of_length_le (by rw [HN.out]; exact Nat.le_refl _)] at this
      have HH := hid hall
      clear hall
      go_wp2_with (fail)
      go_ret
      exact ⟨by rw [HH.out]; rfl, hB⟩
    | succ m =>
      have hlt : j < n := by omega
      obtain ⟨x, hx⟩ : ∃ x, xs[j]? = some x := ⟨_, List.getElem?_eq_getElem (by rw [HN.out]; exact hlt)⟩
      obtain ⟨g, o, rfl, hC⟩ := HA.out j x hx
      obtain ⟨q0, q1, q2, q3, q4⟩ := hC.at_ (hB.block g hC.lt)
      clear hC
      have HX := hid hx
      clear hx
      cases hk : x.ok
      · have HK := hid hk
        clear hk
        go_wp2_with ((go_at_call 107; ((with_reducible refine (gd_f (x := x) HK.out _).mono ?_); rintro ee w4 ⟨rfl, hb4⟩)))
        go_ret
        refine ⟨by rw [all_not HX.out HK.out]; rfl, ?_⟩
        (repeat' (first | (with_reducible exact Below.refl _ _) | (with_reducible assumption) | (with_reducible refine Below.alloc ?_ ?_ _) | (with_reducible refine Below.drew ?_) | (with_reducible refine below_drewN ?_ _) | (with_reducible refine Below.setCell ?_ ?_ _) | (with_reducible refine chain ?_ (by assumption) ?_) | omega | (simp; done) | (simp; omega)))
      · have HK := hid hk
        clear hk
        go_wp2_with ((go_at_call 107; ((with_reducible refine (gd_t (x := x) HK.out _).mono ?_); rintro ee w4 ⟨rfl, hb4⟩)))
        go_roundg m
        case measure => omega
        case rel =>
          refine ⟨j + 1, by omega, by go_num, take_all HX.out HJ.out HK.out, ?_⟩
          (repeat' (first | (with_reducible exact Below.refl _ _) | (with_reducible assumption) | (with_reducible refine Below.alloc ?_ ?_ _) | (with_reducible refine Below.drew ?_) | (with_reducible refine below_drewN ?_ _) | (with_reducible refine Below.setCell ?_ ?_ _) | (with_reducible refine chain ?_ (by assumption) ?_) | omega | (simp; done) | (simp; omega)))

theorem vm_s {r c : Int} {A : Option Addr} {n cp : Nat} {xs : List D5} {w : World} (hA : Rd w A xs) (hn : xs.length = n) :
    Calls Try.prog 57 #[mv r c A n cp] w fun ee w' => ee = .returned (.bool (okM r c n xs)) ∧ Below w.heap.size w w' := by
  cases hr : dimB r
  · have : okM r c n xs = false := by unfold okM; rw [hr]; rfl
    rw [this]; exact vm_s_r hr w
  · cases hc : dimB c
    · have : okM r c n xs = false := by unfold okM; rw [hr, hc]; rfl
      rw [this]; exact vm_s_c hr hc w
    · by_cases hnn : (n : Int) = r * c
      · have : okM r c n xs = allB xs := by unfold okM; rw [hr, hc, decide_eq_true hnn]; rfl
        rw [this]; exact vm_s_l hA hn hr hc hnn
      · have : okM r c n xs = false := by unfold okM; rw [hr, hc, decide_eq_false hnn]; rfl
        rw [this]; exact vm_s_n hr hc hnn w
theorem vm_s_t {r c : Int} {A : Option Addr} {n cp : Nat} {xs : List D5} {w : World} (h : okM r c n xs = true) (hA : Rd w A xs) (hn : xs.length = n) :
    Calls Try.prog 57 #[mv r c A n cp] w fun ee w' => ee = .returned (.bool true) ∧ Below w.heap.size w w' := by
  have := vm_s (r := r) (c := c) (cp := cp) hA hn; rw [h] at this; exact this
theorem vm_s_f {r c : Int} {A : Option Addr} {n cp : Nat} {xs : List D5} {w : World} (h : okM r c n xs = false) (hA : Rd w A xs) (hn : xs.length = n) :
    Calls Try.prog 57 #[mv r c A n cp] w fun ee w' => ee = .returned (.bool false) ∧ Below w.heap.size w w' := by
  have := vm_s (r := r) (c := c) (cp := cp) hA hn; rw [h] at this; exact this

set_option maxRecDepth 100000 in
set_option maxHeartbeats 4000000 in
theorem vm_i_l {r c : Int} {A : Option Addr} {n cp : Nat} {xs : List D5} {w : World} (hA : Rd w A xs) (hn : xs.length = n) (hr : dimB r = true) (hc : dimB c = true) (hnn : (n : Int) = r * c) :
    Calls Try.prog 60 #[mv r c A n cp] w fun ee w' => ee = .returned (.bool (allB xs)) ∧ Below w.heap.size w w' := by
  obtain ⟨r0, r1, c0, c1, p0, p1⟩ := prod_bd hr hc
  have hb : n ≤ 1024 := by omega
  have hq : ((n : Int) != r * c) = false := by simp; exact hnn
  clear hnn
  have HR := hid hr
  have HC := hid hc
  have HA := hid hA
  have HN := hid hn
  clear hr hc hA hn
  go_enter Try.func60, Try.ntmps60
  go_wp2_with (first | (go_at_call_of 110 (Value.int IntKind.i64 r); ((with_reducible refine (dm_i_t HR.out _).mono ?_); rintro ee w1 ⟨rfl, hb1⟩; obtain ⟨hc1, hf1, _⟩ := bcell hb1; have hz1 := hb1.size; (try simp at hz1); (try have hx10 : w.heap.size < w1.heap.size := (by omega)); (try have hx11 : w.heap.size + 1 < w1.heap.size := (by omega)); (try have hx12 : w.heap.size + 1 + 1 < w1.heap.size := (by omega)); (try have hx13 : w.heap.size + 1 + 1 + 1 < w1.heap.size := (by omega)))) | (go_at_call_of 110 (Value.int IntKind.i64 c); ((with_reducible refine (dm_i_t HC.out _).mono ?_); rintro ee w2 ⟨rfl, hb2⟩; obtain ⟨hc2, hf2, _⟩ := bcell hb2; have hz2 := hb2.size; (try simp at hz2); (try have hx20 : w.heap.size < w2.heap.size := (by omega)); (try have hx21 : w.heap.size + 1 < w2.heap.size := (by omega)); (try have hx22 : w.heap.size + 1 + 1 < w2.heap.size := (by omega)); (try have hx23 : w.heap.size + 1 + 1 + 1 < w2.heap.size := (by omega)))) | fail)
  have hB2 : Below w.heap.size w w2 := by (repeat' (first | (with_reducible exact Below.refl _ _) | (with_reducible assumption) | (with_reducible refine Below.alloc ?_ ?_ _) | (with_reducible refine Below.drew ?_) | (with_reducible refine below_drewN ?_ _) | (with_reducible refine Below.setCell ?_ ?_ _) | (with_reducible refine chain ?_ (by assumption) ?_) | omega | (simp; done) | (simp; omega)))
  generalize w2 = w3 at *
  go_loopg [29] n (fun k s1 wr => ∃ j : Nat, j + k = n ∧ s1 = .int .i64 (j : Int) ∧ Hid (allB (xs.take j) = true) ∧ Below w.heap.size w wr)
  case atStart => exact ⟨0, by omega, rfl, rfl, hB2⟩
  case round =>
    obtain ⟨j, hj, rfl, HJ, hB⟩ := hrel
    have hBz := hB.size
    cases gk with
    | zero =>
      obtain rfl : j = n := by omega
      have hall : allB xs = true := by have := HJ.out; rwa [List.take_of_length_le (by rw [HN.out]; exact Nat.le_refl _)] at this
      have HH := hid hall
      clear hall
      go_wp2_with (fail)
      go_ret
      exact ⟨by rw [HH.out]; rfl, hB⟩
    | succ m =>
      have hlt : j < n := by omega
      obtain ⟨x, hx⟩ : ∃ x, xs[j]? = some x := ⟨_, List.getElem?_eq_getElem (by rw [HN.out]; exact hlt)⟩
      obtain ⟨g, o, rfl, hC⟩ := HA.out j x hx
      obtain ⟨q0, q1, q2, q3, q4⟩ := hC.at_ (hB.block g hC.lt)
      clear hC
      have HX := hid hx
      clear hx
      cases hk : x.ok
      · have HK := hid hk
        clear hk
        go_wp2_with ((go_at_call 71; ((with_reducible refine (id_f (x := x) HK.out _).mono ?_); rintro ee w4 ⟨rfl, hb4⟩)))
        go_ret
        refine ⟨by rw [all_not HX.out HK.out]; rfl, ?_⟩
        (repeat' (first | (with_reducible exact Below.refl _ _) | (with_reducible assumption) | (with_reducible refine Below.alloc ?_ ?_ _) | (with_reducible refine Below.drew ?_) | (with_reducible refine below_drewN ?_ _) | (with_reducible refine Below.setCell ?_ ?_ _) | (with_reducible refine chain ?_ (by assumption) ?_) | omega | (simp; done) | (simp; omega)))
      · have HK := hid hk
        clear hk
        go_wp2_with ((go_at_call 71; ((with_reducible refine (id_t (x := x) HK.out _).mono ?_); rintro ee w4 ⟨rfl, hb4⟩)))
        go_roundg m
        case measure => omega
        case rel =>
          refine ⟨j + 1, by omega, by go_num, take_all HX.out HJ.out HK.out, ?_⟩
          (repeat' (first | (with_reducible exact Below.refl _ _) | (with_reducible assumption) | (with_reducible refine Below.alloc ?_ ?_ _) | (with_reducible refine Below.drew ?_) | (with_reducible refine below_drewN ?_ _) | (with_reducible refine Below.setCell ?_ ?_ _) | (with_reducible refine chain ?_ (by assumption) ?_) | omega | (simp; done) | (simp; omega)))

theorem vm_i {r c : Int} {A : Option Addr} {n cp : Nat} {xs : List D5} {w : World} (hA : Rd w A xs) (hn : xs.length = n) :
    Calls Try.prog 60 #[mv r c A n cp] w fun ee w' => ee = .returned (.bool (okM r c n xs)) ∧ Below w.heap.size w w' := by
  cases hr : dimB r
  · have : okM r c n xs = false := by unfold okM; rw [hr]; rfl
    rw [this]; exact vm_i_r hr w
  · cases hc : dimB c
    · have : okM r c n xs = false := by unfold okM; rw [hr, hc]; rfl
      rw [this]; exact vm_i_c hr hc w
    · by_cases hnn : (n : Int) = r * c
      · have : okM r c n xs = allB xs := by unfold okM; rw [hr, hc, decide_eq_true hnn]; rfl
        rw [this]; exact vm_i_l hA hn hr hc hnn
      · have : okM r c n xs = false := by unfold okM; rw [hr, hc, decide_eq_false hnn]; rfl
        rw [this]; exact vm_i_n hr hc hnn w
theorem vm_i_t {r c : Int} {A : Option Addr} {n cp : Nat} {xs : List D5} {w : World} (h : okM r c n xs = true) (hA : Rd w A xs) (hn : xs.length = n) :
    Calls Try.prog 60 #[mv r c A n cp] w fun ee w' => ee = .returned (.bool true) ∧ Below w.heap.size w w' := by
  have := vm_i (r := r) (c := c) (cp := cp) hA hn; rw [h] at this; exact this
theorem vm_i_f {r c : Int} {A : Option Addr} {n cp : Nat} {xs : List D5} {w : World} (h : okM r c n xs = false) (hA : Rd w A xs) (hn : xs.length = n) :
    Calls Try.prog 60 #[mv r c A n cp] w fun ee w' => ee = .returned (.bool false) ∧ Below w.heap.size w w' := by
  have := vm_i (r := r) (c := c) (cp := cp) hA hn; rw [h] at this; exact this

end Go.Proofs.Ytofclfgaekjonaa
namespace Go.Proofs.Ytofclfgaekjonaa
open Go.RowKit RM
set_option linter.unusedVariables false
set_option linter.unusedSimpArgs false
def tab (n : Nat) (f : Nat → D5) : List D5 := (List.range n).map f
theorem tab_len (n : Nat) (f : Nat → D5) : (tab n f).length = n := by simp [tab]
theorem tab_succ (n : Nat) (f : Nat → D5) : tab (n + 1) f = tab n f ++ [f n] := by simp [tab, List.range_succ]
theorem tab_get {n : Nat} {f : Nat → D5} {k : Nat} (h : k < n) : (tab n f)[k]? = some (f k) := by simp [tab, h]
theorem tab_congr {n : Nat} {f g : Nat → D5} (h : ∀ q, q < n → f q = g q) : tab n f = tab n g := by
  unfold tab
  exact List.map_congr_left (fun q hq => h q (List.mem_range.1 hq))
theorem tab_set {n : Nat} {f : Nat → D5} {k : Nat} {v : D5} (h : k < n) : (tab n f).set k v = tab n (fun q => if q = k then v else f q) := by
  apply List.ext_getElem?
  intro q
  by_cases hq : q < n
  · rw [List.getElem?_set, tab_get hq, tab_len]
    by_cases hk : k = q
    · subst hk; rw [tab_get h]; simp [h]
    · rw [if_neg hk, tab_get hq, if_neg (fun e => hk e.symm)]
  · rw [List.getElem?_eq_none (by rw [List.length_set, tab_len]; omega), List.getElem?_eq_none (by rw [tab_len]; omega)]
theorem tab_repl (n : Nat) : List.replicate n z5 = tab n (fun _ => z5) := by
  unfold tab
  rw [List.map_const']
  simp
theorem list_tab (xs : List D5) : xs = tab xs.length (fun q => xs.getD q z5) := by
  apply List.ext_getElem?
  intro q
  by_cases hq : q < xs.length
  · rw [tab_get hq, List.getD_eq_getElem?_getD, List.getElem?_eq_getElem hq]; rfl
  · rw [List.getElem?_eq_none (by omega), List.getElem?_eq_none (by rw [tab_len]; omega)]
theorem getD_of {xs : List D5} {q : Nat} {x : D5} (h : xs[q]? = some x) : xs.getD q z5 = x := by rw [List.getD_eq_getElem?_getD, h]; rfl
theorem get_of {xs : List D5} {q : Nat} (h : q < xs.length) : xs[q]? = some (xs.getD q z5) := by rw [List.getD_eq_getElem?_getD, List.getElem?_eq_getElem h]; rfl
theorem Rd.far {W : World} {A : Option Addr} {xs : List D5} (h : Rd W A xs) {p : Addr} (hp : ∀ a, A = some a → a.block ≠ p.block) (u : Value) : Rd (W.setCell p u) A xs := h.at_ fun a ha => Below.heap_setCell _ _ _ _ (hp a ha)
theorem Bk.made' {W : World} {t : TypeId} {n b : Nat} (hb : b = W.heap.size) : Bk (W.alloc (.cells (csL (List.replicate n z5)).toArray t)) b t (List.replicate n z5) := by subst hb; exact Bk.made W t n
/-- a slice value that owns these numbers -/
def Own5 (W : World) (base : Nat) (t : TypeId) (v : Value) (xs : List D5) : Prop := W.ownsRow base t 5 v xs.length (csL xs)
theorem Own5.nil (W : World) (base : Nat) (t : TypeId) : Own5 W base t (.slice none 0 0) [] := World.ownsRow_nil W base t 5
theorem Own5.form {W : World} {base : Nat} {t : TypeId} {v : Value} {xs : List D5} (h : Own5 W base t v xs) : ∃ A cp, v = .slice A xs.length cp ∧ Rd W A xs ∧ (∀ a, A = some a → base ≤ a.block ∧ a.block < W.heap.size) := by
  have hlt := World.ownsRow.lt h
  rcases h.2 with ⟨hv, h0⟩ | ⟨g, cap, cur, hv, hb, hg, hnc, hcm, hcs, htake⟩
  · have hx : xs = [] := List.eq_nil_of_length_eq_zero h0
    subst hx
    exact ⟨none, 0, hv, Rd.nil _ _, fun a ha => by cases ha⟩
  · refine ⟨some ⟨g, 0, none⟩, cap, hv, ?_, fun a ha => by simp only [Option.some.injEq] at ha; subst ha; exact hlt g (by rw [hv]; rfl)⟩
    have hc := World.ownsRow.cells h (g := g) (by rw [hv]; rfl)
    intro k x hk
    obtain ⟨h0, h1, h2, h3, h4⟩ := csL_get hk
    refine ⟨g, 0, rfl, ?_⟩
    have e := fun j => addr_add g 0 j
    exact ⟨by have := hc _ _ h0; rw [e] at this; exact this, by have := hc _ _ h1; rw [e] at this; exact this, by have := hc _ _ h2; rw [e] at this; exact this, by have := hc _ _ h3; rw [e] at this; exact this, by have := hc _ _ h4; rw [e] at this; exact this⟩
theorem Own5.kept {W W' : World} {base : Nat} {t : TypeId} {v : Value} {xs : List D5} {row : Option Nat} (h : Own5 W base t v xs) (hg : W.grownBy W' row) (hne : v.ownBlock = none ∨ v.ownBlock ≠ row) : Own5 W' base t v xs := World.ownsRow.kept h hg hne
theorem Own5.mono {W W' : World} {base : Nat} {t : TypeId} {v : Value} {xs : List D5} (h : Own5 W base t v xs) (hb : Below W.heap.size W W') : Own5 W' base t v xs :=
  h.kept (row := none) (grown_below hb) (by cases v.ownBlock <;> simp)
theorem Own5.far {W : World} {base : Nat} {t : TypeId} {v : Value} {xs : List D5} (h : Own5 W base t v xs) {p : Addr} (hp : p.block < base) (u : Value) : Own5 (W.setCell p u) base t v xs := ownsRow_setCell_below h hp u
theorem Own5.drew {W : World} {base : Nat} {t : TypeId} {v : Value} {xs : List D5} (h : Own5 W base t v xs) : Own5 W.drew base t v xs := h
theorem Own5.snoc {W' : World} {base : Nat} {t : TypeId} {v' : Value} {xs : List D5} {n : Nat} {x : D5} (hn : xs.length = n) (h : W'.ownsRow base t 5 v' (n + 1) (csL xs ++ x.cs)) : Own5 W' base t v' (xs ++ [x]) := by
  unfold Own5
  rw [csL_app, List.length_append, hn]
  have : csL [x] = x.cs := by simp [csL]
  rw [this]
  exact h
end Go.Proofs.Ytofclfgaekjonaa
namespace Go.Proofs.Ytofclfgaekjonaa
open Go.RowKit RM
set_option linter.unusedVariables false
set_option linter.unusedSimpArgs false
/-- block b is just these cells -/
def Bx (W : World) (b : Nat) (t : TypeId) (cs : Array Value) : Prop := W.heap[b]? = some (.cells cs t (0, 0))
theorem Bx.lt {W : World} {b : Nat} {t : TypeId} {cs : Array Value} (h : Bx W b t cs) : b < W.heap.size := (Array.getElem?_eq_some_iff.1 h).1
theorem Bx.c {W : World} {b : Nat} {t : TypeId} {cs : Array Value} (h : Bx W b t cs) (i : Nat) {v : Value} (hv : cs[i]? = some v) : W.cell? ⟨b, i, none⟩ = some v := (cell_of_row W b i cs t (0, 0) h).trans hv
theorem Bx.f {W : World} {b : Nat} {t : TypeId} {cs : Array Value} (h : Bx W b t cs) (i : Nat) : W.frozen? ⟨b, i, none⟩ = false := frozen_of_row W b i cs t h
theorem Bx.new {W : World} {b : Nat} {t : TypeId} {cs : Array Value} (hb : b = W.heap.size) : Bx (W.alloc (.cells cs t)) b t cs := by subst hb; exact heap_alloc_new W _
theorem Bx.alloc {W : World} {b : Nat} {t : TypeId} {cs : Array Value} (h : Bx W b t cs) (o : Obj) : Bx (W.alloc o) b t cs := (Below.heap_alloc W o b h.lt).trans h
theorem Bx.drew {W : World} {b : Nat} {t : TypeId} {cs : Array Value} (h : Bx W b t cs) : Bx W.drew b t cs := h
theorem Bx.drewN {W : World} {b : Nat} {t : TypeId} {cs : Array Value} (h : Bx W b t cs) (n : Nat) : Bx (W.drewN n) b t cs := h
theorem Bx.far {W : World} {b : Nat} {t : TypeId} {cs : Array Value} (h : Bx W b t cs) {g o : Nat} {u : Value} (hp : b ≠ g) : Bx (W.setCell ⟨g, o, none⟩ u) b t cs := (Below.heap_setCell W _ u b hp).trans h
theorem Bx.set {W : World} {b : Nat} {t : TypeId} {cs cs' : Array Value} {i : Nat} {u : Value} (h : Bx W b t cs) (hc : cs' = cs.setIfInBounds i u) : Bx (W.setCell ⟨b, i, none⟩ u) b t cs' := by
  rw [hc]; exact heap_setCell_same W b i cs t u h
theorem Bx.mono {W W' : World} {b : Nat} {t : TypeId} {cs : Array Value} (h : Bx W b t cs) (hb : Below W.heap.size W W') : Bx W' b t cs := (hb.block b h.lt).trans h
theorem Bx.below {W W' : World} {B b : Nat} {t : TypeId} {cs : Array Value} (h : Bx W b t cs) (hb : Below B W W') (hB : b < B) : Bx W' b t cs := (hb.block b hB).trans h
theorem Bx.grown {W W' : World} {b : Nat} {t : TypeId} {cs : Array Value} {row : Option Nat} (h : Bx W b t cs) (hg : W.grownBy W' row) (hne : some b ≠ row) : Bx W' b t cs := (hg.block b h.lt hne).trans h
/-- behind a call that may set the model's failure -/
theorem Bx.badly {W W' : World} {b g o : Nat} {u : Value} {t : TypeId} {cs : Array Value} (h : Bx W b t cs) (hb : Below W.heap.size (W.setCell ⟨g, o, none⟩ u) W') (hne : b ≠ g) : Bx W' b t cs := (hb.block b h.lt).trans (h.far hne)
theorem Bx.bad {W W' : World} {g : Nat} {u v : Value} {t : TypeId} (h : Bx W g t #[v]) (hb : Below W.heap.size (W.setCell ⟨g, 0, none⟩ u) W') : Bx W' g t #[u] := (hb.block g h.lt).trans (h.set (cs' := #[u]) rfl)
end Go.Proofs.Ytofclfgaekjonaa
namespace Go.Proofs.Ytofclfgaekjonaa
open Go.RowKit RM
set_option linter.unusedVariables false
set_option linter.unusedSimpArgs false
attribute [local irreducible] World.setCell

set_option maxRecDepth 100000 in
set_option maxHeartbeats 4000000 in
theorem rw_i {r : Int} {C i s g n cp : Nat} {w : World} (hs : (i : Int) * (C : Int) = (s : Int)) (he : ((i : Int) + 1) * (C : Int) = ((s + C : Nat) : Int)) (h1 : s + C ≤ cp) (h2 : cp ≤ 1048576) (h3 : 1 ≤ C) (h4 : i ≤ 1048576) :
    Calls Try.prog 99 #[mv r C (some ⟨g, 0, none⟩) n cp, .int .i64 (i : Int)] w fun ee w' => ee = .returned (.slice (some ⟨g, s * 5, none⟩) C C) ∧ Below w.heap.size w w' := by
  have b0 : (s : Int) + C ≤ cp := by omega
  have b1 : (cp : Int) ≤ 1048576 := by omega
  have b2 : (1 : Int) ≤ C := by omega
  have b3 : (s : Int) ≤ 1048576 := by omega
  have b4 : ¬ (cp = s) := by omega
  have b6 : s + C - s = C := by omega
  have b5 : (i : Int) ≤ 1048576 := by omega
  simp only [Int.natCast_add] at he
  go_enter Try.func99, Try.ntmps99
  go_wp2_with (fail)
  go_quiet (fail)
  go_wp2_with (fail)
  go_ret
  refine ⟨by show Ending.returned (Value.slice _ (s + C - s) (s + C - s)) = _; rw [b6], ?_⟩
  (repeat' (first | (with_reducible exact Below.refl _ _) | (with_reducible assumption) | (with_reducible refine Below.alloc ?_ ?_ _) | (with_reducible refine Below.drew ?_) | (with_reducible refine below_drewN ?_ _) | (with_reducible refine Below.setCell ?_ ?_ _) | (with_reducible refine chain ?_ (by assumption) ?_) | omega | (simp; done) | (simp; omega)))

set_option maxRecDepth 100000 in
set_option maxHeartbeats 4000000 in
theorem zm {r c n : Nat} {w : World} (hn : (r : Int) * (c : Int) = (n : Int)) (hb : n ≤ 1024) :
    Calls Try.prog 96 #[.int .i64 (r : Int), .int .i64 (c : Int)] w fun ee w' => ∃ g, ee = .returned (mv (r : Int) (c : Int) (some ⟨g, 0, none⟩) n n) ∧ Bk w' g 99 (List.replicate n z5) ∧ w.heap.size ≤ g ∧ Below w.heap.size w w' := by
  have hmk := mkD n (by omega)
  have e2 : IntKind.i64.wrap (n : Int) = (n : Int) := IntWalk.i64_in _ (by omega)
  go_enter Try.func96, Try.ntmps96
  go_wp2_with (fail)
  refine bodyPost_ret (v := mv (r : Int) (c : Int) (some ⟨w.heap.size + 1, 0, none⟩) n n) (by first | (simp [results, Try.results96, go_sem, *]; done) | (simp (disch := (first | omega | (simp; done) | (simp; omega))) [results, Try.results96, go_sem, *]; done)) rfl ⟨_, rfl, ?_, by omega, ?_⟩
  · exact Bk.made' (by simp)
  · (repeat' (first | (with_reducible exact Below.refl _ _) | (with_reducible assumption) | (with_reducible refine Below.alloc ?_ ?_ _) | (with_reducible refine Below.drew ?_) | (with_reducible refine below_drewN ?_ _) | (with_reducible refine Below.setCell ?_ ?_ _) | (with_reducible refine chain ?_ (by assumption) ?_) | omega | (simp; done) | (simp; omega)))

end Go.Proofs.Ytofclfgaekjonaa
namespace Go
section
variable {P : Program} {ops : Array Oper} {Q : Exit → Act → World → Prop} {md : Region.Mode} {S : World → Prop} {L : Nat}

/-- Whatever order is picked, and S holds behind every operation but number L. -/
def wpAnyX (P : Program) (md : Region.Mode) (ops : Array Oper) (Q : Exit → Act → World → Prop) (S : World → Prop) (L : Nat) : Nat → Array Bool → Act → World → Prop
  | 0, listed, a, w => Region.ready md ops listed = [] ∧ Q .normal a w
  | fuel + 1, listed, a, w =>
    (Region.ready md ops listed = [] → Q .normal a w) ∧
    ∀ i ∈ Region.ready md ops listed, wpOp P ops Q i (fun a' w' => (i ≠ L → S w') ∧ wpAnyX P md ops Q S L fuel (listed.setIfInBounds i true) a' w') a w

theorem wpAny_of_x : ∀ (fuel : Nat) (listed : Array Bool) (a : Act) (w : World), wpAnyX P md ops Q S L fuel listed a w → wpAny P md ops Q fuel listed a w
  | 0, _, _, _, h => h
  | fuel + 1, _, _, _, h => ⟨h.1, fun i hi => wpOp_mono (fun a' w' h' => wpAny_of_x fuel _ a' w' h'.2) (h.2 i hi)⟩

theorem wpAnyX_first {i : Nat} {oi : Oper} {v : Value} (hi : ops[i]? = some oi) (hsel : ∀ (j : Nat) (o : Oper) cs b, ops[j]? = some o → o.op ≠ .select cs b)
    (hQ : ∀ c a w, Q (.panic c) (a.put oi.dst v) w → Q (.panic c) a w)
    (hL : ∀ o, ops[L]? = some o → ∃ e ∈ o.after, Region.binds md e = true ∧ e.on = i) :
    ∀ (fuel : Nat) (listed : Array Bool) (a : Act) (w : World),
      (∀ j oj, ops[j]? = some oj → j ≠ i → listed.getD j true = false → (∀ e ∈ oj.after, Region.binds md e = true → e.on ≠ i) → oi.apart ops oj = true) →
      i ∈ Region.ready md ops listed → YieldsIf P ops S oi v a → S w →
      wpAnyX P md ops Q S L fuel (listed.setIfInBounds i true) (a.put oi.dst v) w → wpAnyX P md ops Q S L (fuel + 1) listed a w := by
  intro fuel
  induction fuel with
  | zero =>
    intro listed a w _ hr hy hS H
    refine ⟨fun h => (by rw [h] at hr; cases hr), fun j hj => ?_⟩
    by_cases hji : j = i
    · subst hji; exact hy.wpOp hi hS ⟨fun _ => hS, H⟩
    · have := ready_mono hj hji
      rw [H.1] at this
      cases this
  | succ fuel ih =>
    intro listed a w hfree hr hy hS H
    refine ⟨fun h => (by rw [h] at hr; cases hr), fun j hj => ?_⟩
    by_cases hji : j = i
    · subst hji; exact hy.wpOp hi hS ⟨fun _ => hS, H⟩
    · have h1 := H.2 j (ready_mono hj hji)
      obtain ⟨hjun, oj, hoj, hall⟩ := mem_ready.1 hj
      have hnot : ∀ e ∈ oj.after, Region.binds md e = true → e.on ≠ i := fun e he hb heq => by
        have h1 := hall e he hb
        have h0 := (mem_ready.1 hr).1
        rw [heq] at h1
        rcases Nat.lt_or_ge i listed.size with h' | h'
        · simp [h'] at h0 h1; rw [h0] at h1; cases h1
        · simp [Array.getElem?_eq_none h'] at h1
      have hjL : j ≠ L := fun e => by
        subst e
        obtain ⟨e, he, hb, ho⟩ := hL oj hoj
        exact hnot e he hb ho
      have h2 := wpOp_putIf hoj (hfree j oj hoj hji hjun hnot) (fun cs b => hsel i oi cs b hi) (fun cs b => hsel j oj cs b hoj) hQ hy h1
      have hfree' : ∀ k ok, ops[k]? = some ok → k ≠ i → (listed.setIfInBounds j true).getD k true = false →
          (∀ e ∈ ok.after, Region.binds md e = true → e.on ≠ i) → oi.apart ops ok = true := fun k ok hk hki hun hno => by
        refine hfree k ok hk hki ?_ hno
        by_cases hjk : j = k
        · subst hjk; exact hjun
        · rw [getD_set_ne true hjk] at hun; exact hun
      refine wpOp_mono (fun a' w' h3 => ⟨fun _ => h3.2.1 hjL, ih (listed.setIfInBounds j true) a' w' hfree' (ready_mono hr (Ne.symm hji)) h3.1 (h3.2.1 hjL) ?_⟩) h2
      rw [Array.setIfInBounds_comm _ _ hji]
      exact h3.2.2

/-- does operation L wait for number i? -/
def waitsOn (md : Region.Mode) (ops : Array Oper) (L i : Nat) : Bool :=
  match ops[L]? with
  | some o => o.after.toList.any fun e => Region.binds md e && e.on == i
  | none => true
theorem waitsOn_spec {i : Nat} (h : waitsOn md ops L i = true) : ∀ o, ops[L]? = some o → ∃ e ∈ o.after, Region.binds md e = true ∧ e.on = i := by
  intro o ho
  unfold waitsOn at h
  rw [ho] at h
  obtain ⟨e, he, hb⟩ := List.any_eq_true.1 h
  simp only [Bool.and_eq_true, beq_iff_eq] at hb
  exact ⟨e, by simpa using he, hb.1, hb.2⟩

theorem wpAnyX_take {i : Nat} {oi : Oper} {v : Value} {fuel : Nat} {listed : Array Bool} {a : Act} {w : World} (hi : ops[i]? = some oi)
    (hs : Region.noSelect ops = true) (hf : Region.free md ops listed i = true) (hr : (Region.ready md ops listed).contains i = true) (hw : waitsOn md ops L i = true)
    (hQ : ∀ c a w, Q (.panic c) (a.put oi.dst v) w → Q (.panic c) a w) (hy : YieldsIf P ops S oi v a) (hS : S w)
    (h : wpAnyX P md ops Q S L fuel (listed.setIfInBounds i true) (a.put oi.dst v) w) : wpAnyX P md ops Q S L (fuel + 1) listed a w :=
  wpAnyX_first hi (Region.noSelect_spec hs) hQ (waitsOn_spec hw) fuel listed a w (Region.free_spec hi hf) (by simpa using hr) hy hS h

/-- Only number i may come up: what it does, and S behind it if it isn't the last. -/
theorem wpAnyX_one {i : Nat} {o : Oper} {fuel : Nat} {listed : Array Bool} {a : Act} {w : World} (ho : ops[i]? = some o) (hr : Region.ready md ops listed = [i])
    (h : ∀ K' : Act → World → Prop, Shut (∀ a w, (i ≠ L → S w) → ((i ≠ L → S w) → wpAnyX P md ops Q S L fuel (listed.setIfInBounds i true) a w) → K' a w) → if Region.wanted o (yielded ops a.tmps) = true then Oper.wp P o a w K' Q else K' (a.put o.dst undef) w) :
    wpAnyX P md ops Q S L (fuel + 1) listed a w := by
  refine ⟨fun h0 => (by rw [hr] at h0; cases h0), fun j hj => ?_⟩
  rw [hr] at hj
  obtain rfl : j = i := by simpa using hj
  exact wpOp_step ho (fun K' hK => h K' (fun a w hS hW => hK a w ⟨hS, hW hS⟩))

/-- Two may come up. -/
theorem wpAnyX_two {i j : Nat} {oi oj : Oper} {fuel : Nat} {listed : Array Bool} {a : Act} {w : World} (hi : ops[i]? = some oi) (hj : ops[j]? = some oj) (hr : Region.ready md ops listed = [i, j])
    (h1 : ∀ K' : Act → World → Prop, Shut (∀ a w, (i ≠ L → S w) → ((i ≠ L → S w) → wpAnyX P md ops Q S L fuel (listed.setIfInBounds i true) a w) → K' a w) → if Region.wanted oi (yielded ops a.tmps) = true then Oper.wp P oi a w K' Q else K' (a.put oi.dst undef) w)
    (h2 : ∀ K' : Act → World → Prop, Shut (∀ a w, (j ≠ L → S w) → ((j ≠ L → S w) → wpAnyX P md ops Q S L fuel (listed.setIfInBounds j true) a w) → K' a w) → if Region.wanted oj (yielded ops a.tmps) = true then Oper.wp P oj a w K' Q else K' (a.put oj.dst undef) w) :
    wpAnyX P md ops Q S L (fuel + 1) listed a w := by
  refine ⟨fun h0 => (by rw [hr] at h0; cases h0), fun k hk => ?_⟩
  rw [hr] at hk
  simp only [List.mem_cons, List.not_mem_nil, or_false] at hk
  rcases hk with rfl | rfl
  · exact wpOp_step hi (fun K' hK => h1 K' (fun a w hS hW => hK a w ⟨hS, hW hS⟩))
  · exact wpOp_step hj (fun K' hK => h2 K' (fun a w hS hW => hK a w ⟨hS, hW hS⟩))

theorem wpAnyX_done {listed : Array Bool} {a : Act} {w : World} (hr : Region.ready md ops listed = []) (h : Q .normal a w) :
    ∀ fuel, wpAnyX P md ops Q S L fuel listed a w
  | 0 => ⟨hr, h⟩
  | _ + 1 => ⟨fun _ => h, by rw [hr]; simp⟩

/-- The beginning: from the world behind the draw. -/
theorem wp_region_x (S : World → Prop) (L : Nat) {id : Nat} {a : Act} {w : World} (hm : P.follows .mixedOrders = true) (hS : S w.drew)
    (h : S w.drew → wpAnyX P .any ops Q S L ops.size (Array.replicate ops.size false) a w.drew) : (Code.region id ops true).wp P Q a w :=
  wp_region_any hm (wpAny_of_x _ _ _ _ (h hS))
end
theorem kst5 {a : World} {g k o o0 o1 o2 o3 o4 : Nat} {v v0 v1 v2 v3 v4 : Value} (hne : g ≠ k) (h : a.cell? ⟨k, o, none⟩ = some v) : (((((a.setCell ⟨g, o0, none⟩ v0).setCell ⟨g, o1, none⟩ v1).setCell ⟨g, o2, none⟩ v2).setCell ⟨g, o3, none⟩ v3).setCell ⟨g, o4, none⟩ v4).cell? ⟨k, o, none⟩ = some v := by
  rw [World.cell?_setCell_far _ _ _ _ hne, World.cell?_setCell_far _ _ _ _ hne, World.cell?_setCell_far _ _ _ _ hne, World.cell?_setCell_far _ _ _ _ hne, World.cell?_setCell_far _ _ _ _ hne, h]
end Go
namespace Go.Proofs.Ytofclfgaekjonaa
open Go.RowKit RM
set_option linter.unusedVariables false
set_option linter.unusedSimpArgs false
attribute [local irreducible] World.setCell

theorem append_ok {n : Nat} (h : n ≤ 1048576) : n + 1 ≤ maxLen ∧ (n + 1) * 40 ≤ 140737488355328 := by unfold maxLen; omega
end Go.Proofs.Ytofclfgaekjonaa
