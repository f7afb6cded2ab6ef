/- Contracts of what the laws call on slices of numbers: the size, the marks, their check. -/
import Derived.Test.YtofclfgaekjonaaSl
namespace Go.Proofs.Ytofclfgaekjonaa
open Go.RowKit RM
set_option linter.unusedVariables false
set_option linter.unusedSimpArgs false
attribute [local irreducible] World.setCell

set_option maxRecDepth 100000 in
set_option maxHeartbeats 2000000 in
theorem szs_t {A : Option Addr} {n c : Nat} {k : Int} {w : World} (hn : (n : Int) ≤ k) (hk : k ≤ 1048576) :
    Calls Try.prog 56 #[.slice A n c, .int .i64 k] w fun ee w' => ee = .returned (.int .i64 (k - n)) ∧ Below w.heap.size w w' := by
  have h0 : ¬ (k - (n : Int) < 0) := by omega
  have h1 : 0 ≤ k - (n : Int) := by omega
  go_enter Try.func56, Try.ntmps56
  go_wp2_with (fail)
  go_ret
  exact ⟨rfl, by (repeat' (first | (with_reducible exact Below.refl _ _) | (with_reducible assumption) | (with_reducible refine Below.alloc ?_ ?_ _) | (with_reducible refine Below.drew ?_) | (with_reducible refine below_drewN ?_ _) | (with_reducible refine Below.setCell ?_ ?_ _) | (with_reducible refine chain ?_ (by assumption) ?_) | omega | (simp; done) | (simp; omega)))⟩

set_option maxRecDepth 100000 in
set_option maxHeartbeats 2000000 in
theorem szs_f {A : Option Addr} {n c : Nat} {k : Int} {w : World} (hn : k < (n : Int)) (hk : k ≤ 1048576) (h0 : 0 ≤ k) (hb : n ≤ maxLen) :
    Calls Try.prog 56 #[.slice A n c, .int .i64 k] w fun ee w' => ee = .returned (.int .i64 (-1)) ∧ Below w.heap.size w w' := by
  unfold maxLen at hb
  go_enter Try.func56, Try.ntmps56
  go_wp2_with (fail)
  go_ret
  exact ⟨rfl, by (repeat' (first | (with_reducible exact Below.refl _ _) | (with_reducible assumption) | (with_reducible refine Below.alloc ?_ ?_ _) | (with_reducible refine Below.drew ?_) | (with_reducible refine below_drewN ?_ _) | (with_reducible refine Below.setCell ?_ ?_ _) | (with_reducible refine chain ?_ (by assumption) ?_) | omega | (simp; done) | (simp; omega)))⟩

set_option maxRecDepth 100000 in
set_option maxHeartbeats 2000000 in
theorem mks_n {A : Option Addr} {c : Nat} {k : Int} {w : World} :
    Calls Try.prog 83 #[.slice A 0 c, .int .i64 k] w fun ee w' => ee = .returned (.int .i64 k) ∧ Below w.heap.size w w' := by
  go_enter Try.func83, Try.ntmps83
  go_wp2_with (fail)
  refine wp_loop_rounds 1 ?_
  rw [rounds_succ]; go_wp2_with (fail)
  go_ret
  exact ⟨rfl, by (repeat' (first | (with_reducible exact Below.refl _ _) | (with_reducible assumption) | (with_reducible refine Below.alloc ?_ ?_ _) | (with_reducible refine Below.drew ?_) | (with_reducible refine below_drewN ?_ _) | (with_reducible refine Below.setCell ?_ ?_ _) | (with_reducible refine chain ?_ (by assumption) ?_) | omega | (simp; done) | (simp; omega)))⟩

set_option maxRecDepth 100000 in
set_option maxHeartbeats 4000000 in
theorem mks_s {g n c : Nat} {k : Int} {xs : List D5} {w : World} (hB : Bk w g 99 xs) (hn : xs.length = n) (hb : n ≤ 1048576) (h0 : 0 ≤ k) (h1 : k ≤ 10000000) :
    Calls Try.prog 83 #[.slice (some ⟨g, 0, none⟩) n c, .int .i64 k] w fun ee w' => ee = .returned (.int .i64 (k + 5 * (n : Int))) ∧ Bk w' g 99 (mks k n) ∧ w.grownBy w' (some g) := by
  have HB := hid hB
  have HN := hid hn
  clear hB hn
  go_enter Try.func83, Try.ntmps83
  go_wp2_with (fail)
  go_loopg [1, 5] n (fun q s0 s1 wr => ∃ j : Nat, j + q = n ∧ s0 = .int .i64 (k + 5 * (j : Int)) ∧ s1 = .int .i64 (j : Int) ∧ Bk wr g 99 (mks k j ++ xs.drop j) ∧ w.grownBy wr (some g))
  case atStart => exact ⟨0, by omega, by first | (go_num; done) | simp, rfl, HB.out, grown_below (Below.refl _ _)⟩
  case round =>
    obtain ⟨j, hj, rfl, rfl, hBk, hG⟩ := hrel
    cases gk with
    | zero =>
      obtain rfl : j = n := by omega
      have HBk := hid hBk
      clear hBk
      go_wp2_with (fail)
      go_ret
      refine ⟨rfl, ?_, hG⟩
      have h1 := HBk.out
      rw [List.drop_of_length_le (by rw [HN.out]; exact Nat.le_refl _), List.append_nil] at h1
      exact h1
    | succ m =>
      have hlt : j < n := by omega
      have hl : j < xs.length := by rw [HN.out]; exact hlt
      obtain ⟨x, hx⟩ : ∃ x, xs[j]? = some x := ⟨_, List.getElem?_eq_getElem hl⟩
      obtain ⟨p0, p1, p2, p3, p4⟩ := hBk.cx (mks_at (k := k) hx)
      have HL := hid hl
      clear hx hl
      have fr := hBk.fr
      have hsz := hBk.lt
      have HBk := hid hBk
      clear hBk
      have b0 : 0 ≤ k + 5 * (j : Int) := by omega
      have b1 : k + 5 * (j : Int) ≤ 100000000 := by omega
      go_wp2_with (fail)
      go_roundg m
      case measure => omega
      case rel =>
        refine ⟨j + 1, by omega, by go_num, by go_num, ?_, ?_⟩
        · have h1 := HBk.out.set (mk1 k j) (k := j) (by rw [List.length_append, mks_len, List.length_drop]; have := HL.out; omega)
          rw [mks_set HL.out] at h1
          exact h1
        · exact grown_set5 (x := mk1 k j) (o := j * 5) hG

set_option maxRecDepth 100000 in
set_option maxHeartbeats 4000000 in
theorem hds {A : Option Addr} {n c : Nat} {k : Int} {w : World} (hA : Rd w A (mks k n)) (hb : n ≤ 1048576) (h0 : 0 ≤ k) (h1 : k ≤ 10000000) :
    Calls Try.prog 84 #[.slice A n c, .int .i64 k] w fun ee w' => ee = .returned (.int .i64 (k + 5 * (n : Int))) ∧ Below w.heap.size w w' := by
  have HA := hid hA
  clear hA
  go_enter Try.func84, Try.ntmps84
  go_wp2_with (fail)
  go_loopg [1, 5] n (fun q s0 s1 wr => ∃ j : Nat, j + q = n ∧ s0 = .int .i64 (k + 5 * (j : Int)) ∧ s1 = .int .i64 (j : Int) ∧ Below w.heap.size w wr)
  case atStart => exact ⟨0, by omega, by first | (go_num; done) | simp, rfl, by (repeat' (first | (with_reducible exact Below.refl _ _) | (with_reducible assumption) | (with_reducible refine Below.alloc ?_ ?_ _) | (with_reducible refine Below.drew ?_) | (with_reducible refine below_drewN ?_ _) | (with_reducible refine Below.setCell ?_ ?_ _) | (with_reducible refine chain ?_ (by assumption) ?_) | omega | (simp; done) | (simp; omega)))⟩
  case round =>
    obtain ⟨j, hj, rfl, rfl, hB⟩ := hrel
    cases gk with
    | zero =>
      obtain rfl : j = n := by omega
      go_wp2_with (fail)
      go_ret
      exact ⟨rfl, hB⟩
    | succ m =>
      have hlt : j < n := by omega
      obtain ⟨g, o, rfl, hC⟩ := HA.out j _ (mks_get k hlt)
      obtain ⟨q0, q1, q2, q3, q4⟩ := hC.at_ (hB.block g hC.lt)
      simp only [mk1] at q0 q1 q2 q3 q4
      clear hC
      have b0 : 0 ≤ k + 5 * (j : Int) := by omega
      have b1 : k + 5 * (j : Int) ≤ 100000000 := by omega
      go_wp2_with (fail)
      go_roundg m
      case measure => omega
      case rel => exact ⟨j + 1, by omega, by go_num, by go_num, hB⟩

end Go.Proofs.Ytofclfgaekjonaa
