/- Contracts of LeastExp and of its model. -/
import Derived.Test.YtofclfgaekjonaaZq10
namespace Go.Proofs.Ytofclfgaekjonaa
open Go.RowKit RM
set_option linter.unusedVariables false
set_option linter.unusedSimpArgs false
attribute [local irreducible] World.setCell

/-- the greatest exponent -/
def maxE (xs : List D5) : Int := xs.foldl (fun k x => max k x.e) 0
theorem maxE_succ {xs : List D5} {j : Nat} {x : D5} (hx : xs[j]? = some x) : maxE (xs.take (j + 1)) = max (maxE (xs.take j)) x.e := by
  have hj := (List.getElem?_eq_some_iff.1 hx).1
  have hv := (List.getElem?_eq_some_iff.1 hx).2
  unfold maxE
  rw [List.take_succ_eq_append_getElem hj, hv, List.foldl_append]
  rfl
theorem e_bd {x : D5} (h : x.ok = true) : 0 ≤ x.e ∧ x.e ≤ 60 := by
  obtain ⟨n, h1, h2⟩ := ok_nat h
  have := (vd_iff.1 h2).2.1
  omega
attribute [irreducible] maxE

set_option maxRecDepth 100000 in
set_option maxHeartbeats 2000000 in
theorem most_t {a b : Int} (h : b < a) (w : World) :
    Calls Try.prog 108 #[.int .i64 a, .int .i64 b] w fun ee w' => ee = .returned (.int .i64 a) ∧ w = w' := by
  go_enter Try.func108, Try.ntmps108
  go_wp2_with (fail)
  go_ret
  exact ⟨rfl, rfl⟩

set_option maxRecDepth 100000 in
set_option maxHeartbeats 2000000 in
theorem most_f {a b : Int} (h : ¬ (b < a)) (w : World) :
    Calls Try.prog 108 #[.int .i64 a, .int .i64 b] w fun ee w' => ee = .returned (.int .i64 b) ∧ w = w' := by
  go_enter Try.func108, Try.ntmps108
  go_wp2_with (fail)
  go_ret
  exact ⟨rfl, rfl⟩

set_option maxRecDepth 100000 in
set_option maxHeartbeats 4000000 in
theorem lx {r c : Int} {A : Option Addr} {n cp : Nat} {xs : List D5} {w : World} (hA : Rd w A xs) (hn : xs.length = n) (hb : n ≤ 1048576) (hall : allB xs = true) :
    Calls Try.prog 58 #[mv r c A n cp] w fun ee w' => ee = .returned (.int .i64 (maxE xs)) ∧ Below w.heap.size w w' := by
  have HA := hid hA
  have HN := hid hn
  have HALL := hid hall
  clear hA hn hall
  go_enter Try.func58, Try.ntmps58
  go_wp2_with (fail)
  go_loopg [3, 9] n (fun q s0 s1 wr => ∃ (j : Nat) (K : Int), j + q = n ∧ s0 = .int .i64 K ∧ s1 = .int .i64 (j : Int) ∧ Hid (K = maxE (xs.take j)) ∧ 0 ≤ K ∧ K ≤ 60 ∧ Below w.heap.size w wr)
  case atStart => exact ⟨0, 0, by omega, rfl, rfl, (by unfold maxE; rfl), by omega, by omega, by (repeat' (first | (with_reducible exact Below.refl _ _) | (with_reducible assumption) | (with_reducible refine Below.alloc ?_ ?_ _) | (with_reducible refine Below.drew ?_) | (with_reducible refine below_drewN ?_ _) | (with_reducible refine Below.setCell ?_ ?_ _) | (with_reducible refine chain ?_ (by assumption) ?_) | omega | (simp; done) | (simp; omega)))⟩
  case round =>
    obtain ⟨j, K, hj, rfl, rfl, HK, hK0, hK1, hB⟩ := hrel
    have hBz := hB.size
    cases gk with
    | zero =>
      obtain rfl : j = n := by omega
      have HH : Hid (maxE xs = K) := by have h := HK.out; rw [List.take_of_length_le (by rw [HN.out]; exact Nat.le_refl _)] at h; exact h.symm
      go_wp2_with (fail)
      go_ret
      exact ⟨by rw [HH.out]; rfl, hB⟩
    | succ m =>
      have hlt : j < n := by omega
      obtain ⟨x, hx⟩ : ∃ x, xs[j]? = some x := ⟨_, List.getElem?_eq_getElem (by rw [HN.out]; exact hlt)⟩
      obtain ⟨e0, e1⟩ := e_bd (all_get HALL.out hx)
      obtain ⟨g, o, rfl, hC⟩ := HA.out j x hx
      obtain ⟨q0, q1, q2, q3, q4⟩ := hC.at_ (hB.block g hC.lt)
      clear hC
      have HX := hid hx
      clear hx
      by_cases hc : x.e < K
      · have HM : Hid (K = maxE (xs.take (j + 1))) := by show K = _; rw [maxE_succ HX.out, ← HK.out]; omega
        have hm : max K x.e = K := by omega
        go_wp2_with ((go_at_call 108; ((with_reducible refine (most_t hc _).mono ?_); rintro ee w4 ⟨rfl, rfl⟩)))
        go_roundg m
        case measure => omega
        case rel =>
          refine ⟨j + 1, K, by omega, by first | rfl | (rw [hm]), by go_num, HM, hK0, hK1, ?_⟩
          (repeat' (first | (with_reducible exact Below.refl _ _) | (with_reducible assumption) | (with_reducible refine Below.alloc ?_ ?_ _) | (with_reducible refine Below.drew ?_) | (with_reducible refine below_drewN ?_ _) | (with_reducible refine Below.setCell ?_ ?_ _) | (with_reducible refine chain ?_ (by assumption) ?_) | omega | (simp; done) | (simp; omega)))
      · have HM : Hid (x.e = maxE (xs.take (j + 1))) := by show x.e = _; rw [maxE_succ HX.out, ← HK.out]; omega
        have hm : max K x.e = x.e := by omega
        go_wp2_with ((go_at_call 108; ((with_reducible refine (most_f hc _).mono ?_); rintro ee w4 ⟨rfl, rfl⟩)))
        go_roundg m
        case measure => omega
        case rel =>
          refine ⟨j + 1, x.e, by omega, by first | rfl | (rw [hm]), by go_num, HM, e0, e1, ?_⟩
          (repeat' (first | (with_reducible exact Below.refl _ _) | (with_reducible assumption) | (with_reducible refine Below.alloc ?_ ?_ _) | (with_reducible refine Below.drew ?_) | (with_reducible refine below_drewN ?_ _) | (with_reducible refine Below.setCell ?_ ?_ _) | (with_reducible refine chain ?_ (by assumption) ?_) | omega | (simp; done) | (simp; omega)))

set_option maxRecDepth 100000 in
set_option maxHeartbeats 4000000 in
theorem le_s_t {r c : Int} {A : Option Addr} {n cp : Nat} {xs : List D5} {w : World} (hA : Rd w A xs) (hn : xs.length = n) (hb : n ≤ 1048576) (hok : okM r c n xs = true) :
    Calls Try.prog 16 #[mv r c A n cp] w fun ee w' => ee = .returned (.tuple #[.int .i64 (maxE xs), .bool true]) ∧ Below w.heap.size w w' := by
  have HA := hid hA
  have HN := hid hn
  have HO := hid hok
  clear hA hn hok
  go_enter Try.func16, Try.ntmps16
  go_wp2_with (fail)
  refine (vm_s_t (xs := xs) HO.out ?_ HN.out).mono ?_
  · exact HA.out.mono (by (repeat' (first | (with_reducible exact Below.refl _ _) | (with_reducible assumption) | (with_reducible refine Below.alloc ?_ ?_ _) | (with_reducible refine Below.drew ?_) | (with_reducible refine below_drewN ?_ _) | (with_reducible refine Below.setCell ?_ ?_ _) | (with_reducible refine chain ?_ (by assumption) ?_) | omega | (simp; done) | (simp; omega))))
  rintro ee w1 ⟨rfl, hb1⟩
  obtain ⟨hc1, hf1, _⟩ := bcell hb1; have hz1 := hb1.size; (try simp at hz1); (try have hx10 : w.heap.size < w1.heap.size := (by omega)); (try have hx11 : w.heap.size + 1 < w1.heap.size := (by omega)); (try have hx12 : w.heap.size + 1 + 1 < w1.heap.size := (by omega)); (try have hx13 : w.heap.size + 1 + 1 + 1 < w1.heap.size := (by omega))
  go_wp2_with (fail)
  refine (lx (xs := xs) ?_ HN.out hb (okM_iff.1 HO.out).2.2.2).mono ?_
  · exact HA.out.mono (by (repeat' (first | (with_reducible exact Below.refl _ _) | (with_reducible assumption) | (with_reducible refine Below.alloc ?_ ?_ _) | (with_reducible refine Below.drew ?_) | (with_reducible refine below_drewN ?_ _) | (with_reducible refine Below.setCell ?_ ?_ _) | (with_reducible refine chain ?_ (by assumption) ?_) | omega | (simp; done) | (simp; omega))))
  rintro ee w2 ⟨rfl, hb2⟩
  go_wp2_with (fail)
  go_ret2
  refine ⟨rfl, ?_⟩
  (repeat' (first | (with_reducible exact Below.refl _ _) | (with_reducible assumption) | (with_reducible refine Below.alloc ?_ ?_ _) | (with_reducible refine Below.drew ?_) | (with_reducible refine below_drewN ?_ _) | (with_reducible refine Below.setCell ?_ ?_ _) | (with_reducible refine chain ?_ (by assumption) ?_) | omega | (simp; done) | (simp; omega)))

set_option maxRecDepth 100000 in
set_option maxHeartbeats 4000000 in
theorem le_s_f {r c : Int} {A : Option Addr} {n cp : Nat} {xs : List D5} {w : World} (hA : Rd w A xs) (hn : xs.length = n) (hb : n ≤ 1048576) (hok : okM r c n xs = false) :
    Calls Try.prog 16 #[mv r c A n cp] w fun ee w' => ee = .returned (.tuple #[.int .i64 0, .bool false]) ∧ Below w.heap.size w w' := by
  have HA := hid hA
  have HN := hid hn
  have HO := hid hok
  clear hA hn hok
  go_enter Try.func16, Try.ntmps16
  go_wp2_with (fail)
  refine (vm_s_f (xs := xs) HO.out ?_ HN.out).mono ?_
  · exact HA.out.mono (by (repeat' (first | (with_reducible exact Below.refl _ _) | (with_reducible assumption) | (with_reducible refine Below.alloc ?_ ?_ _) | (with_reducible refine Below.drew ?_) | (with_reducible refine below_drewN ?_ _) | (with_reducible refine Below.setCell ?_ ?_ _) | (with_reducible refine chain ?_ (by assumption) ?_) | omega | (simp; done) | (simp; omega))))
  rintro ee w1 ⟨rfl, hb1⟩
  obtain ⟨hc1, hf1, _⟩ := bcell hb1; have hz1 := hb1.size; (try simp at hz1); (try have hx10 : w.heap.size < w1.heap.size := (by omega)); (try have hx11 : w.heap.size + 1 < w1.heap.size := (by omega)); (try have hx12 : w.heap.size + 1 + 1 < w1.heap.size := (by omega)); (try have hx13 : w.heap.size + 1 + 1 + 1 < w1.heap.size := (by omega))
  go_wp2_with (fail)
  go_ret2
  refine ⟨rfl, ?_⟩
  (repeat' (first | (with_reducible exact Below.refl _ _) | (with_reducible assumption) | (with_reducible refine Below.alloc ?_ ?_ _) | (with_reducible refine Below.drew ?_) | (with_reducible refine below_drewN ?_ _) | (with_reducible refine Below.setCell ?_ ?_ _) | (with_reducible refine chain ?_ (by assumption) ?_) | omega | (simp; done) | (simp; omega)))

set_option maxRecDepth 100000 in
set_option maxHeartbeats 4000000 in
theorem gx_i {A : Option Addr} {n cp : Nat} {xs : List D5} {w : World} (hA : Rd w A xs) (hn : xs.length = n) (hb : n ≤ 1048576) (hall : allB xs = true) :
    Calls Try.prog 61 #[.slice A n cp] w fun ee w' => ee = .returned (.int .i64 (maxE xs)) ∧ Below w.heap.size w w' := by
  have HA := hid hA
  have HN := hid hn
  have HALL := hid hall
  clear hA hn hall
  go_enter Try.func61, Try.ntmps61
  go_wp2_with (fail)
  go_loopg [3, 8] n (fun q s0 s1 wr => ∃ (j : Nat) (K : Int), j + q = n ∧ s0 = .int .i64 K ∧ s1 = .int .i64 (j : Int) ∧ Hid (K = maxE (xs.take j)) ∧ 0 ≤ K ∧ K ≤ 60 ∧ Below w.heap.size w wr)
  case atStart => exact ⟨0, 0, by omega, rfl, rfl, (by unfold maxE; rfl), by omega, by omega, by (repeat' (first | (with_reducible exact Below.refl _ _) | (with_reducible assumption) | (with_reducible refine Below.alloc ?_ ?_ _) | (with_reducible refine Below.drew ?_) | (with_reducible refine below_drewN ?_ _) | (with_reducible refine Below.setCell ?_ ?_ _) | (with_reducible refine chain ?_ (by assumption) ?_) | omega | (simp; done) | (simp; omega)))⟩
  case round =>
    obtain ⟨j, K, hj, rfl, rfl, HK, hK0, hK1, hB⟩ := hrel
    have hBz := hB.size
    cases gk with
    | zero =>
      obtain rfl : j = n := by omega
      have HH : Hid (maxE xs = K) := by have h := HK.out; rw [List.take_of_length_le (by rw [HN.out]; exact Nat.le_refl _)] at h; exact h.symm
      go_wp2_with (fail)
      go_ret
      exact ⟨by rw [HH.out]; rfl, hB⟩
    | succ m =>
      have hlt : j < n := by omega
      obtain ⟨x, hx⟩ : ∃ x, xs[j]? = some x := ⟨_, List.getElem?_eq_getElem (by rw [HN.out]; exact hlt)⟩
      obtain ⟨e0, e1⟩ := e_bd (all_get HALL.out hx)
      obtain ⟨g, o, rfl, hC⟩ := HA.out j x hx
      obtain ⟨q0, q1, q2, q3, q4⟩ := hC.at_ (hB.block g hC.lt)
      clear hC
      have HX := hid hx
      clear hx
      by_cases hc : x.e ≤ K
      · have HM : Hid (K = maxE (xs.take (j + 1))) := by show K = _; rw [maxE_succ HX.out, ← HK.out]; omega
        have hm : max K x.e = K := by omega
        go_wp2_with (fail)
        go_roundg m
        case measure => omega
        case rel =>
          refine ⟨j + 1, K, by omega, by first | rfl | (rw [hm]), by go_num, HM, hK0, hK1, ?_⟩
          (repeat' (first | (with_reducible exact Below.refl _ _) | (with_reducible assumption) | (with_reducible refine Below.alloc ?_ ?_ _) | (with_reducible refine Below.drew ?_) | (with_reducible refine below_drewN ?_ _) | (with_reducible refine Below.setCell ?_ ?_ _) | (with_reducible refine chain ?_ (by assumption) ?_) | omega | (simp; done) | (simp; omega)))
      · have HM : Hid (x.e = maxE (xs.take (j + 1))) := by show x.e = _; rw [maxE_succ HX.out, ← HK.out]; omega
        have hm : max K x.e = x.e := by omega
        go_wp2_with (fail)
        go_roundg m
        case measure => omega
        case rel =>
          refine ⟨j + 1, x.e, by omega, by first | rfl | (rw [hm]), by go_num, HM, e0, e1, ?_⟩
          (repeat' (first | (with_reducible exact Below.refl _ _) | (with_reducible assumption) | (with_reducible refine Below.alloc ?_ ?_ _) | (with_reducible refine Below.drew ?_) | (with_reducible refine below_drewN ?_ _) | (with_reducible refine Below.setCell ?_ ?_ _) | (with_reducible refine chain ?_ (by assumption) ?_) | omega | (simp; done) | (simp; omega)))

set_option maxRecDepth 100000 in
set_option maxHeartbeats 4000000 in
theorem le_i_t {r c : Int} {A : Option Addr} {n cp : Nat} {xs : List D5} {w : World} (hA : Rd w A xs) (hn : xs.length = n) (hb : n ≤ 1048576) (hok : okM r c n xs = true) :
    Calls Try.prog 18 #[mv r c A n cp] w fun ee w' => ee = .returned (.tuple #[.int .i64 (maxE xs), .bool true]) ∧ Below w.heap.size w w' := by
  have HA := hid hA
  have HN := hid hn
  have HO := hid hok
  clear hA hn hok
  go_enter Try.func18, Try.ntmps18
  go_wp2_with (fail)
  refine (vm_i_t (xs := xs) HO.out ?_ HN.out).mono ?_
  · exact HA.out.mono (by (repeat' (first | (with_reducible exact Below.refl _ _) | (with_reducible assumption) | (with_reducible refine Below.alloc ?_ ?_ _) | (with_reducible refine Below.drew ?_) | (with_reducible refine below_drewN ?_ _) | (with_reducible refine Below.setCell ?_ ?_ _) | (with_reducible refine chain ?_ (by assumption) ?_) | omega | (simp; done) | (simp; omega))))
  rintro ee w1 ⟨rfl, hb1⟩
  obtain ⟨hc1, hf1, _⟩ := bcell hb1; have hz1 := hb1.size; (try simp at hz1); (try have hx10 : w.heap.size < w1.heap.size := (by omega)); (try have hx11 : w.heap.size + 1 < w1.heap.size := (by omega)); (try have hx12 : w.heap.size + 1 + 1 < w1.heap.size := (by omega)); (try have hx13 : w.heap.size + 1 + 1 + 1 < w1.heap.size := (by omega))
  go_wp2_with (fail)
  refine (gx_i (xs := xs) ?_ HN.out hb (okM_iff.1 HO.out).2.2.2).mono ?_
  · exact HA.out.mono (by (repeat' (first | (with_reducible exact Below.refl _ _) | (with_reducible assumption) | (with_reducible refine Below.alloc ?_ ?_ _) | (with_reducible refine Below.drew ?_) | (with_reducible refine below_drewN ?_ _) | (with_reducible refine Below.setCell ?_ ?_ _) | (with_reducible refine chain ?_ (by assumption) ?_) | omega | (simp; done) | (simp; omega))))
  rintro ee w2 ⟨rfl, hb2⟩
  go_wp2_with (fail)
  go_ret2
  refine ⟨rfl, ?_⟩
  (repeat' (first | (with_reducible exact Below.refl _ _) | (with_reducible assumption) | (with_reducible refine Below.alloc ?_ ?_ _) | (with_reducible refine Below.drew ?_) | (with_reducible refine below_drewN ?_ _) | (with_reducible refine Below.setCell ?_ ?_ _) | (with_reducible refine chain ?_ (by assumption) ?_) | omega | (simp; done) | (simp; omega)))

set_option maxRecDepth 100000 in
set_option maxHeartbeats 4000000 in
theorem le_i_f {r c : Int} {A : Option Addr} {n cp : Nat} {xs : List D5} {w : World} (hA : Rd w A xs) (hn : xs.length = n) (hb : n ≤ 1048576) (hok : okM r c n xs = false) :
    Calls Try.prog 18 #[mv r c A n cp] w fun ee w' => ee = .returned (.tuple #[.int .i64 0, .bool false]) ∧ Below w.heap.size w w' := by
  have HA := hid hA
  have HN := hid hn
  have HO := hid hok
  clear hA hn hok
  go_enter Try.func18, Try.ntmps18
  go_wp2_with (fail)
  refine (vm_i_f (xs := xs) HO.out ?_ HN.out).mono ?_
  · exact HA.out.mono (by (repeat' (first | (with_reducible exact Below.refl _ _) | (with_reducible assumption) | (with_reducible refine Below.alloc ?_ ?_ _) | (with_reducible refine Below.drew ?_) | (with_reducible refine below_drewN ?_ _) | (with_reducible refine Below.setCell ?_ ?_ _) | (with_reducible refine chain ?_ (by assumption) ?_) | omega | (simp; done) | (simp; omega))))
  rintro ee w1 ⟨rfl, hb1⟩
  obtain ⟨hc1, hf1, _⟩ := bcell hb1; have hz1 := hb1.size; (try simp at hz1); (try have hx10 : w.heap.size < w1.heap.size := (by omega)); (try have hx11 : w.heap.size + 1 < w1.heap.size := (by omega)); (try have hx12 : w.heap.size + 1 + 1 < w1.heap.size := (by omega)); (try have hx13 : w.heap.size + 1 + 1 + 1 < w1.heap.size := (by omega))
  go_wp2_with (fail)
  go_ret2
  refine ⟨rfl, ?_⟩
  (repeat' (first | (with_reducible exact Below.refl _ _) | (with_reducible assumption) | (with_reducible refine Below.alloc ?_ ?_ _) | (with_reducible refine Below.drew ?_) | (with_reducible refine below_drewN ?_ _) | (with_reducible refine Below.setCell ?_ ?_ _) | (with_reducible refine chain ?_ (by assumption) ?_) | omega | (simp; done) | (simp; omega)))

end Go.Proofs.Ytofclfgaekjonaa
