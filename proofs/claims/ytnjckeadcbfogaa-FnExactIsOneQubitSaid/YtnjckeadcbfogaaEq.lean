/- Contracts of EqualMatrices, of what it calls, and of its model. -/
import Derived.Test.YtnjckeadcbfogaaZq15
import Derived.Test.YtnjckeadcbfogaaStEq
import Derived.BigQuiet
import Derived.Deep.QuietTactic
import Derived.Deep.LoopGhost
namespace Go.Proofs.Ytnjckeadcbfogaa
open Go.RowKit RM
set_option linter.unusedVariables false
set_option linter.unusedSimpArgs false
attribute [local irreducible] World.setCell

/-- equality of numbers, of lists of them -/
def D5.beq (x y : D5) : Bool := x.a == y.a && x.b == y.b && x.c == y.c && x.d == y.d && x.e == y.e
theorem beq_iff5 {x y : D5} : x.beq y = true ↔ x = y := by
  obtain ⟨a, b, c, d, e⟩ := x
  obtain ⟨p, q, r, s, f⟩ := y
  simp [D5.beq, and_assoc]
def eqL : List D5 → List D5 → Bool
  | [], [] => true
  | x :: xs, y :: ys => x.beq y && eqL xs ys
  | _, _ => false
theorem eqL_iff {xs ys : List D5} : eqL xs ys = true ↔ xs = ys := by
  induction xs generalizing ys with
  | nil => cases ys <;> simp [eqL]
  | cons x xs ih => cases ys with
    | nil => simp [eqL]
    | cons y ys => simp [eqL, ih, beq_iff5]
theorem eqL_at {xs ys : List D5} {j : Nat} {x y : D5} (hx : xs[j]? = some x) (hy : ys[j]? = some y) (hne : x ≠ y) : eqL xs ys = false := by
  cases h : eqL xs ys
  · rfl
  · rw [eqL_iff.1 h, hy] at hx
    exact absurd (Option.some.inj hx).symm hne
theorem eqL_len {xs ys : List D5} (h : xs.length ≠ ys.length) : eqL xs ys = false := by
  cases hq : eqL xs ys
  · rfl
  · exact absurd (by rw [eqL_iff.1 hq]) h
theorem take_eq {xs ys : List D5} {j : Nat} {x : D5} (hx : xs[j]? = some x) (hy : ys[j]? = some x) (h : xs.take j = ys.take j) : xs.take (j + 1) = ys.take (j + 1) := by
  rw [List.take_add_one, List.take_add_one, hx, hy, h]
theorem eqL_end {xs ys : List D5} {j : Nat} (h1 : xs.length = j) (h2 : ys.length = j) (h : xs.take j = ys.take j) : eqL xs ys = true := by
  rw [List.take_of_length_le (by omega), List.take_of_length_le (by omega)] at h
  exact eqL_iff.2 h
theorem ne5 {x y : D5} (h : x ≠ y) : ¬ (x.a = y.a ∧ x.b = y.b ∧ x.c = y.c ∧ x.d = y.d ∧ x.e = y.e) := by
  obtain ⟨a, b, c, d, e⟩ := x
  obtain ⟨p, q, r, s, f⟩ := y
  rintro ⟨rfl, rfl, rfl, rfl, rfl⟩
  exact h rfl

set_option maxRecDepth 100000 in
set_option maxHeartbeats 4000000 in
theorem sleq {A B : Option Addr} {n c d : Nat} {xs ys : List D5} {w : World} (hA : Rd w A xs) (hB : Rd w B ys) (hn : xs.length = n) (hm : ys.length = n) (hb : n ≤ 1048576) :
    Calls Try.prog 131 #[.slice A n c, .slice B n d] w fun ee w' => ee = .returned (.bool (eqL xs ys)) ∧ Below w.heap.size w w' := by
  have HA := hid hA
  have HB := hid hB
  have HN := hid hn
  have HM := hid hm
  clear hA hB hn hm
  go_enter Try.func131, Try.ntmps131
  go_wp2_with (fail)
  go_loopg [13] n (fun k s1 wr => ∃ j : Nat, j + k = n ∧ s1 = .int .i64 (j : Int) ∧ Hid (xs.take j = ys.take j) ∧ Below w.heap.size w wr)
  case atStart => exact ⟨0, by omega, rfl, rfl, by (repeat' (first | (with_reducible exact Below.refl _ _) | (with_reducible assumption) | (with_reducible refine Below.alloc ?_ ?_ _) | (with_reducible refine Below.drew ?_) | (with_reducible refine below_drewN ?_ _) | (with_reducible refine Below.setCell ?_ ?_ _) | (with_reducible refine chain ?_ (by assumption) ?_) | omega | (simp; done) | (simp; omega)))⟩
  case round =>
    obtain ⟨j, hj, rfl, HJ, hB⟩ := hrel
    cases gk with
    | zero =>
      obtain rfl : j = n := by omega
      go_wp2_with (fail)
      go_ret
      exact ⟨by rw [eqL_end HN.out HM.out HJ.out]; rfl, hB⟩
    | succ m =>
      have hlt : j < n := by omega
      obtain ⟨x, hx⟩ : ∃ x, xs[j]? = some x := ⟨_, List.getElem?_eq_getElem (by rw [HN.out]; exact hlt)⟩
      obtain ⟨y, hy⟩ : ∃ y, ys[j]? = some y := ⟨_, List.getElem?_eq_getElem (by rw [HM.out]; exact hlt)⟩
      obtain ⟨g, o, rfl, hC⟩ := HA.out j x hx
      obtain ⟨g', o', rfl, hC'⟩ := HB.out j y hy
      have HX := hid hx
      have HY := hid hy
      clear hx hy
      obtain ⟨q0, q1, q2, q3, q4⟩ := hC.at_ (hB.block g hC.lt)
      obtain ⟨p0, p1, p2, p3, p4⟩ := hC'.at_ (hB.block g' hC'.lt)
      clear hC hC'
      by_cases hxy : x = y
      · subst hxy
        have hop := neq_f x
        go_wp2_with (fail)
        go_quiet (fail)
        go_wp2_with (fail)
        go_roundg m
        case measure => omega
        case rel => exact ⟨j + 1, by omega, by go_num, take_eq HX.out HY.out HJ.out, by (repeat' (first | (with_reducible exact Below.refl _ _) | (with_reducible assumption) | (with_reducible refine Below.alloc ?_ ?_ _) | (with_reducible refine Below.drew ?_) | (with_reducible refine below_drewN ?_ _) | (with_reducible refine Below.setCell ?_ ?_ _) | (with_reducible refine chain ?_ (by assumption) ?_) | omega | (simp; done) | (simp; omega)))⟩
      · have HNE := hid hxy
        have hop := neq_t hxy
        clear hxy
        go_wp2_with (fail)
        go_quiet (fail)
        go_wp2_with (fail)
        go_ret
        refine ⟨by rw [eqL_at HX.out HY.out HNE.out]; rfl, ?_⟩
        (repeat' (first | (with_reducible exact Below.refl _ _) | (with_reducible assumption) | (with_reducible refine Below.alloc ?_ ?_ _) | (with_reducible refine Below.drew ?_) | (with_reducible refine below_drewN ?_ _) | (with_reducible refine Below.setCell ?_ ?_ _) | (with_reducible refine chain ?_ (by assumption) ?_) | omega | (simp; done) | (simp; omega)))

set_option maxRecDepth 100000 in
set_option maxHeartbeats 4000000 in
theorem sleq_n {A B : Option Addr} {n m c d : Nat} {w : World} (hne : n ≠ m) (hb : n ≤ 1048576) (hb2 : m ≤ 1048576) :
    Calls Try.prog 131 #[.slice A n c, .slice B m d] w fun ee w' => ee = .returned (.bool false) ∧ Below w.heap.size w w' := by
  have h1 : ((n : Int) != (m : Int)) = true := by simp; omega
  go_enter Try.func131, Try.ntmps131
  go_wp2_with (fail)
  go_ret
  refine ⟨rfl, ?_⟩
  (repeat' (first | (with_reducible exact Below.refl _ _) | (with_reducible assumption) | (with_reducible refine Below.alloc ?_ ?_ _) | (with_reducible refine Below.drew ?_) | (with_reducible refine below_drewN ?_ _) | (with_reducible refine Below.setCell ?_ ?_ _) | (with_reducible refine chain ?_ (by assumption) ?_) | omega | (simp; done) | (simp; omega)))

def eqM (r c r' c' : Int) (xs ys : List D5) : Bool := r == r' && (c == c' && eqL xs ys)

set_option maxRecDepth 100000 in
set_option maxHeartbeats 4000000 in
theorem eqm_i_r {r c r' c' : Int} {A B : Option Addr} {n m cp cp' : Nat} (hr : r ≠ r') (hb : n ≤ 1048576) (hb2 : m ≤ 1048576) (w : World) :
    Calls Try.prog 88 #[mv r c A n cp, mv r' c' B m cp'] w fun ee w' => ee = .returned (.bool false) ∧ Below w.heap.size w w' := by
  have h1 : (r == r') = false := by simpa using hr
  have h2 : (r != r') = true := by simpa using hr
  clear hr
  go_enter Try.func88, Try.ntmps88
  go_wp2_with (fail)
  go_ret
  refine ⟨rfl, ?_⟩
  (repeat' (first | (with_reducible exact Below.refl _ _) | (with_reducible assumption) | (with_reducible refine Below.alloc ?_ ?_ _) | (with_reducible refine Below.drew ?_) | (with_reducible refine below_drewN ?_ _) | (with_reducible refine Below.setCell ?_ ?_ _) | (with_reducible refine chain ?_ (by assumption) ?_) | omega | (simp; done) | (simp; omega)))

set_option maxRecDepth 100000 in
set_option maxHeartbeats 4000000 in
theorem eqm_i_c {r c r' c' : Int} {A B : Option Addr} {n m cp cp' : Nat} (hr : r = r') (hc : c ≠ c') (hb : n ≤ 1048576) (hb2 : m ≤ 1048576) (w : World) :
    Calls Try.prog 88 #[mv r c A n cp, mv r' c' B m cp'] w fun ee w' => ee = .returned (.bool false) ∧ Below w.heap.size w w' := by
  subst hr
  have h1 : (c == c') = false := by simpa using hc
  have h2 : (c != c') = true := by simpa using hc
  clear hc
  go_enter Try.func88, Try.ntmps88
  go_wp2_with (fail)
  go_ret
  refine ⟨rfl, ?_⟩
  (repeat' (first | (with_reducible exact Below.refl _ _) | (with_reducible assumption) | (with_reducible refine Below.alloc ?_ ?_ _) | (with_reducible refine Below.drew ?_) | (with_reducible refine below_drewN ?_ _) | (with_reducible refine Below.setCell ?_ ?_ _) | (with_reducible refine chain ?_ (by assumption) ?_) | omega | (simp; done) | (simp; omega)))

set_option maxRecDepth 100000 in
set_option maxHeartbeats 4000000 in
theorem eqm_i_n {r c r' c' : Int} {A B : Option Addr} {n m cp cp' : Nat} (hr : r = r') (hc : c = c') (hne : n ≠ m) (hb : n ≤ 1048576) (hb2 : m ≤ 1048576) (w : World) :
    Calls Try.prog 88 #[mv r c A n cp, mv r' c' B m cp'] w fun ee w' => ee = .returned (.bool false) ∧ Below w.heap.size w w' := by
  subst hr
  subst hc
  have h2 : ((n : Int) != (m : Int)) = true := by simp; omega
  have HE := hid hne
  clear hne
  go_enter Try.func88, Try.ntmps88
  go_wp2_with (fail)
  refine (sleq_n HE.out hb hb2).mono ?_
  rintro ee w1 ⟨rfl, hb1⟩
  go_wp2_with (fail)
  go_ret
  refine ⟨rfl, ?_⟩
  (repeat' (first | (with_reducible exact Below.refl _ _) | (with_reducible assumption) | (with_reducible refine Below.alloc ?_ ?_ _) | (with_reducible refine Below.drew ?_) | (with_reducible refine below_drewN ?_ _) | (with_reducible refine Below.setCell ?_ ?_ _) | (with_reducible refine chain ?_ (by assumption) ?_) | omega | (simp; done) | (simp; omega)))

set_option maxRecDepth 100000 in
set_option maxHeartbeats 4000000 in
theorem eqm_i_l {r c : Int} {A B : Option Addr} {n cp cp' : Nat} {xs ys : List D5} {w : World} (hA : Rd w A xs) (hB : Rd w B ys) (hn : xs.length = n) (hm : ys.length = n) (hb : n ≤ 1048576) :
    Calls Try.prog 88 #[mv r c A n cp, mv r c B n cp'] w fun ee w' => ee = .returned (.bool (eqL xs ys)) ∧ Below w.heap.size w w' := by
  have HA := hid hA
  have HB := hid hB
  have HN := hid hn
  have HM := hid hm
  clear hA hB hn hm
  go_enter Try.func88, Try.ntmps88
  go_wp2_with (fail)
  refine (sleq (xs := xs) (ys := ys) ?_ ?_ HN.out HM.out hb).mono ?_
  · exact HA.out.mono (by (repeat' (first | (with_reducible exact Below.refl _ _) | (with_reducible assumption) | (with_reducible refine Below.alloc ?_ ?_ _) | (with_reducible refine Below.drew ?_) | (with_reducible refine below_drewN ?_ _) | (with_reducible refine Below.setCell ?_ ?_ _) | (with_reducible refine chain ?_ (by assumption) ?_) | omega | (simp; done) | (simp; omega))))
  · exact HB.out.mono (by (repeat' (first | (with_reducible exact Below.refl _ _) | (with_reducible assumption) | (with_reducible refine Below.alloc ?_ ?_ _) | (with_reducible refine Below.drew ?_) | (with_reducible refine below_drewN ?_ _) | (with_reducible refine Below.setCell ?_ ?_ _) | (with_reducible refine chain ?_ (by assumption) ?_) | omega | (simp; done) | (simp; omega))))
  rintro ee w1 ⟨rfl, hb1⟩
  go_wp2_with (fail)
  go_ret
  refine ⟨rfl, ?_⟩
  (repeat' (first | (with_reducible exact Below.refl _ _) | (with_reducible assumption) | (with_reducible refine Below.alloc ?_ ?_ _) | (with_reducible refine Below.drew ?_) | (with_reducible refine below_drewN ?_ _) | (with_reducible refine Below.setCell ?_ ?_ _) | (with_reducible refine chain ?_ (by assumption) ?_) | omega | (simp; done) | (simp; omega)))

theorem eqm_i {r c r' c' : Int} {A B : Option Addr} {n m cp cp' : Nat} {xs ys : List D5} {w : World} (hA : Rd w A xs) (hB : Rd w B ys) (hn : xs.length = n) (hm : ys.length = m) (hb : n ≤ 1048576) (hb2 : m ≤ 1048576) :
    Calls Try.prog 88 #[mv r c A n cp, mv r' c' B m cp'] w fun ee w' => ee = .returned (.bool (eqM r c r' c' xs ys)) ∧ Below w.heap.size w w' := by
  by_cases hr : r = r'
  · by_cases hc : c = c'
    · subst hr hc
      have h : eqM r c r c xs ys = eqL xs ys := by unfold eqM; simp
      rw [h]
      by_cases hne : n = m
      · subst hne
        exact eqm_i_l hA hB hn hm hb
      · have h2 : eqL xs ys = false := eqL_len (by rw [hn, hm]; exact hne)
        rw [h2]
        exact eqm_i_n rfl rfl hne hb hb2 w
    · have h : eqM r c r' c' xs ys = false := by unfold eqM; simp [hc]
      rw [h]
      exact eqm_i_c hr hc hb hb2 w
  · have h : eqM r c r' c' xs ys = false := by unfold eqM; simp [hr]
    rw [h]
    exact eqm_i_r hr hb hb2 w

set_option maxRecDepth 100000 in
set_option maxHeartbeats 4000000 in
theorem eqm_s_r {r c r' c' : Int} {A B : Option Addr} {n m cp cp' : Nat} (hr : r ≠ r') (hb : n ≤ 1048576) (hb2 : m ≤ 1048576) (w : World) :
    Calls Try.prog 84 #[mv r c A n cp, mv r' c' B m cp'] w fun ee w' => ee = .returned (.bool false) ∧ Below w.heap.size w w' := by
  have h1 : (r == r') = false := by simpa using hr
  have h2 : (r != r') = true := by simpa using hr
  clear hr
  go_enter Try.func84, Try.ntmps84
  go_wp2_with (fail)
  go_ret
  refine ⟨rfl, ?_⟩
  (repeat' (first | (with_reducible exact Below.refl _ _) | (with_reducible assumption) | (with_reducible refine Below.alloc ?_ ?_ _) | (with_reducible refine Below.drew ?_) | (with_reducible refine below_drewN ?_ _) | (with_reducible refine Below.setCell ?_ ?_ _) | (with_reducible refine chain ?_ (by assumption) ?_) | omega | (simp; done) | (simp; omega)))

set_option maxRecDepth 100000 in
set_option maxHeartbeats 4000000 in
theorem eqm_s_c {r c r' c' : Int} {A B : Option Addr} {n m cp cp' : Nat} (hr : r = r') (hc : c ≠ c') (hb : n ≤ 1048576) (hb2 : m ≤ 1048576) (w : World) :
    Calls Try.prog 84 #[mv r c A n cp, mv r' c' B m cp'] w fun ee w' => ee = .returned (.bool false) ∧ Below w.heap.size w w' := by
  subst hr
  have h1 : (c == c') = false := by simpa using hc
  have h2 : (c != c') = true := by simpa using hc
  clear hc
  go_enter Try.func84, Try.ntmps84
  go_wp2_with (fail)
  go_ret
  refine ⟨rfl, ?_⟩
  (repeat' (first | (with_reducible exact Below.refl _ _) | (with_reducible assumption) | (with_reducible refine Below.alloc ?_ ?_ _) | (with_reducible refine Below.drew ?_) | (with_reducible refine below_drewN ?_ _) | (with_reducible refine Below.setCell ?_ ?_ _) | (with_reducible refine chain ?_ (by assumption) ?_) | omega | (simp; done) | (simp; omega)))

set_option maxRecDepth 100000 in
set_option maxHeartbeats 4000000 in
theorem eqm_s_n {r c r' c' : Int} {A B : Option Addr} {n m cp cp' : Nat} (hr : r = r') (hc : c = c') (hne : n ≠ m) (hb : n ≤ 1048576) (hb2 : m ≤ 1048576) (w : World) :
    Calls Try.prog 84 #[mv r c A n cp, mv r' c' B m cp'] w fun ee w' => ee = .returned (.bool false) ∧ Below w.heap.size w w' := by
  subst hr
  subst hc
  have h2 : ((n : Int) != (m : Int)) = true := by simp; omega
  have HE := hid hne
  clear hne
  go_enter Try.func84, Try.ntmps84
  go_wp2_with (fail)
  go_ret
  refine ⟨rfl, ?_⟩
  (repeat' (first | (with_reducible exact Below.refl _ _) | (with_reducible assumption) | (with_reducible refine Below.alloc ?_ ?_ _) | (with_reducible refine Below.drew ?_) | (with_reducible refine below_drewN ?_ _) | (with_reducible refine Below.setCell ?_ ?_ _) | (with_reducible refine chain ?_ (by assumption) ?_) | omega | (simp; done) | (simp; omega)))

set_option maxRecDepth 100000 in
set_option maxHeartbeats 4000000 in
theorem eqm_s_l {r c : Int} {A B : Option Addr} {n cp cp' : Nat} {xs ys : List D5} {w : World} (hA : Rd w A xs) (hB : Rd w B ys) (hn : xs.length = n) (hm : ys.length = n) (hb : n ≤ 1048576) :
    Calls Try.prog 84 #[mv r c A n cp, mv r c B n cp'] w fun ee w' => ee = .returned (.bool (eqL xs ys)) ∧ Below w.heap.size w w' := by
  have HA := hid hA
  have HB := hid hB
  have HN := hid hn
  have HM := hid hm
  clear hA hB hn hm
  go_enter Try.func84, Try.ntmps84
  go_wp2_with (fail)
  go_loopg [30] n (fun k s1 wr => ∃ j : Nat, j + k = n ∧ s1 = .int .i64 (j : Int) ∧ Hid (xs.take j = ys.take j) ∧ wr.cell? ⟨w.heap.size, 2, none⟩ = some (.slice A n cp) ∧ wr.cell? ⟨w.heap.size + 1, 2, none⟩ = some (.slice B n cp') ∧ Below w.heap.size w wr)
  case atStart => exact ⟨0, by omega, rfl, rfl, by first | rfl | (simp; done), by first | rfl | (simp; done), by (repeat' (first | (with_reducible exact Below.refl _ _) | (with_reducible assumption) | (with_reducible refine Below.alloc ?_ ?_ _) | (with_reducible refine Below.drew ?_) | (with_reducible refine below_drewN ?_ _) | (with_reducible refine Below.setCell ?_ ?_ _) | (with_reducible refine chain ?_ (by assumption) ?_) | omega | (simp; done) | (simp; omega)))⟩
  case round =>
    obtain ⟨j, hj, rfl, HJ, k0, k1, hB⟩ := hrel
    cases gk with
    | zero =>
      obtain rfl : j = n := by omega
      go_wp2_with (fail)
      go_ret
      exact ⟨by rw [eqL_end HN.out HM.out HJ.out]; rfl, hB⟩
    | succ m =>
      have hlt : j < n := by omega
      obtain ⟨x, hx⟩ : ∃ x, xs[j]? = some x := ⟨_, List.getElem?_eq_getElem (by rw [HN.out]; exact hlt)⟩
      obtain ⟨y, hy⟩ : ∃ y, ys[j]? = some y := ⟨_, List.getElem?_eq_getElem (by rw [HM.out]; exact hlt)⟩
      obtain ⟨g, o, rfl, hC⟩ := HA.out j x hx
      obtain ⟨g', o', rfl, hC'⟩ := HB.out j y hy
      have HX := hid hx
      have HY := hid hy
      clear hx hy
      obtain ⟨q0, q1, q2, q3, q4⟩ := hC.at_ (hB.block g hC.lt)
      obtain ⟨p0, p1, p2, p3, p4⟩ := hC'.at_ (hB.block g' hC'.lt)
      clear hC hC'
      by_cases hxy : x = y
      · subst hxy
        have hop := neq_f x
        go_wp2_with (fail)
        go_quiet (fail)
        go_wp2_with (fail)
        go_roundg m
        case measure => omega
        case rel => exact ⟨j + 1, by omega, by go_num, take_eq HX.out HY.out HJ.out, k0, k1, by (repeat' (first | (with_reducible exact Below.refl _ _) | (with_reducible assumption) | (with_reducible refine Below.alloc ?_ ?_ _) | (with_reducible refine Below.drew ?_) | (with_reducible refine below_drewN ?_ _) | (with_reducible refine Below.setCell ?_ ?_ _) | (with_reducible refine chain ?_ (by assumption) ?_) | omega | (simp; done) | (simp; omega)))⟩
      · have HNE := hid hxy
        have hop := neq_t hxy
        clear hxy
        go_wp2_with (fail)
        go_quiet (fail)
        go_wp2_with (fail)
        go_ret
        refine ⟨by rw [eqL_at HX.out HY.out HNE.out]; rfl, ?_⟩
        (repeat' (first | (with_reducible exact Below.refl _ _) | (with_reducible assumption) | (with_reducible refine Below.alloc ?_ ?_ _) | (with_reducible refine Below.drew ?_) | (with_reducible refine below_drewN ?_ _) | (with_reducible refine Below.setCell ?_ ?_ _) | (with_reducible refine chain ?_ (by assumption) ?_) | omega | (simp; done) | (simp; omega)))

theorem eqm_s {r c r' c' : Int} {A B : Option Addr} {n m cp cp' : Nat} {xs ys : List D5} {w : World} (hA : Rd w A xs) (hB : Rd w B ys) (hn : xs.length = n) (hm : ys.length = m) (hb : n ≤ 1048576) (hb2 : m ≤ 1048576) :
    Calls Try.prog 84 #[mv r c A n cp, mv r' c' B m cp'] w fun ee w' => ee = .returned (.bool (eqM r c r' c' xs ys)) ∧ Below w.heap.size w w' := by
  by_cases hr : r = r'
  · by_cases hc : c = c'
    · subst hr hc
      have h : eqM r c r c xs ys = eqL xs ys := by unfold eqM; simp
      rw [h]
      by_cases hne : n = m
      · subst hne
        exact eqm_s_l hA hB hn hm hb
      · have h2 : eqL xs ys = false := eqL_len (by rw [hn, hm]; exact hne)
        rw [h2]
        exact eqm_s_n rfl rfl hne hb hb2 w
    · have h : eqM r c r' c' xs ys = false := by unfold eqM; simp [hc]
      rw [h]
      exact eqm_s_c hr hc hb hb2 w
  · have h : eqM r c r' c' xs ys = false := by unfold eqM; simp [hr]
    rw [h]
    exact eqm_s_r hr hb hb2 w

end Go.Proofs.Ytnjckeadcbfogaa
