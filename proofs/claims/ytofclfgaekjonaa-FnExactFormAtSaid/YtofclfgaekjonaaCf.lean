/- CountForms: both sides and the law. -/
import Derived.Test.YtofclfgaekjonaaReadsM
namespace Go.Proofs.Ytofclfgaekjonaa
open Go.RowKit RM
set_option linter.unusedVariables false
set_option linter.unusedSimpArgs false
attribute [local irreducible] World.setCell

/-- the number of forms with n syllables -/
def cntI : Nat → Int
  | 0 => 24
  | 1 => 72
  | n + 2 => cntI (n + 1) * 2
theorem cnt_tab : ∀ n : Nat, n ≤ 20 → 24 ≤ cntI n ∧ cntI n ≤ 37748736 := by decide +kernel
theorem cnt_s {j : Nat} (h : ¬ (j = 0)) : cntI (j + 1) = cntI j * 2 := by
  cases j with
  | zero => exact absurd rfl h
  | succ m => rfl
attribute [irreducible] cntI
set_option maxRecDepth 100000 in
set_option maxHeartbeats 4000000 in
theorem ct_s {n : Nat} (hn : n ≤ 20) (w : World) :
    Calls Try.prog 101 #[.int .i64 (n : Int)] w fun ee w' => ee = .returned (.int .i64 (cntI n)) ∧ w = w' := by
  have hc : n = 0 ∨ n = 1 ∨ n = 2 ∨ n = 3 ∨ n = 4 ∨ n = 5 ∨ n = 6 ∨ n = 7 ∨ n = 8 ∨ n = 9 ∨ n = 10 ∨ n = 11 ∨ n = 12 ∨ n = 13 ∨ n = 14 ∨ n = 15 ∨ n = 16 ∨ n = 17 ∨ n = 18 ∨ n = 19 ∨ n = 20 := by omega
  rcases hc with rfl | rfl | rfl | rfl | rfl | rfl | rfl | rfl | rfl | rfl | rfl | rfl | rfl | rfl | rfl | rfl | rfl | rfl | rfl | rfl | rfl
  all_goals
    go_enter Try.func101, Try.ntmps101
    go_wp2_with (fail)
    go_ret
    exact ⟨by with_unfolding_all rfl, rfl⟩

set_option maxRecDepth 100000 in
set_option maxHeartbeats 4000000 in
theorem in_t {n a b : Int} (h1 : a ≤ n) (h2 : n ≤ b) (w : World) :
    Calls Try.prog 100 #[.int .i64 n, .int .i64 a, .int .i64 b] w fun ee w' => ee = .returned (.bool true) ∧ w = w' := by
  go_enter Try.func100, Try.ntmps100
  go_wp2_with (fail)
  go_ret
  exact ⟨rfl, rfl⟩

set_option maxRecDepth 100000 in
set_option maxHeartbeats 4000000 in
theorem in_f {n a b : Int} (h : n < a ∨ b < n) (w : World) :
    Calls Try.prog 100 #[.int .i64 n, .int .i64 a, .int .i64 b] w fun ee w' => ee = .returned (.bool false) ∧ w = w' := by
  by_cases h1 : a ≤ n
  · have h2 : b < n := by omega
    have h3 : ¬ (n ≤ b) := by omega
    clear h
    go_enter Try.func100, Try.ntmps100
    go_wp2_with (fail)
    go_ret
    exact ⟨rfl, rfl⟩
  · have h3 : n < a := by omega
    clear h
    go_enter Try.func100, Try.ntmps100
    go_wp2_with (fail)
    go_ret
    exact ⟨rfl, rfl⟩

set_option maxRecDepth 100000 in
set_option maxHeartbeats 4000000 in
theorem cf_s_t {n : Nat} (hn : n ≤ 20) (w : World) :
    Calls Try.prog 45 #[.int .i64 (n : Int)] w fun ee w' => ee = .returned (.tuple #[.int .i64 (cntI n), .bool true]) ∧ w = w' := by
  have h20 : (n : Int) ≤ 20 := by omega
  go_enter Try.func45, Try.ntmps45
  go_wp2_with ((first | (go_at_call 100; ((with_reducible refine (in_t (by omega) (by omega) _).mono ?_); rintro ee w1 ⟨rfl, rfl⟩)) | (go_at_call 101; ((with_reducible refine (ct_s hn _).mono ?_); rintro ee w1 ⟨rfl, rfl⟩))))
  go_ret2
  exact ⟨rfl, rfl⟩

set_option maxRecDepth 100000 in
set_option maxHeartbeats 4000000 in
theorem cf_s_f {n : Int} (hn : n < 0 ∨ 20 < n) (w : World) :
    Calls Try.prog 45 #[.int .i64 n] w fun ee w' => ee = .returned (.tuple #[.int .i64 0, .bool false]) ∧ w = w' := by
  have HN := hid hn
  clear hn
  go_enter Try.func45, Try.ntmps45
  go_wp2_with ((go_at_call 100; ((with_reducible refine (in_f HN.out _).mono ?_); rintro ee w1 ⟨rfl, rfl⟩)))
  go_ret2
  exact ⟨rfl, rfl⟩

set_option maxRecDepth 100000 in
set_option maxHeartbeats 4000000 in
theorem la_0 (w : World) :
    Calls Try.prog 102 #[.int .i64 0] w fun ee w' => ee = .returned (.string (ByteArray.mk #[84, 72, 83])) ∧ w = w' := by
  go_enter Try.func102, Try.ntmps102
  go_wp2_with (fail)
  go_ret
  exact ⟨rfl, rfl⟩

set_option maxRecDepth 100000 in
set_option maxHeartbeats 4000000 in
theorem la_n {n : Int} (h : ¬ (n = 0)) (w : World) :
    Calls Try.prog 102 #[.int .i64 n] w fun ee w' => ee = .returned (.string (ByteArray.mk #[72, 83])) ∧ w = w' := by
  go_enter Try.func102, Try.ntmps102
  go_wp2_with (fail)
  go_ret
  exact ⟨rfl, rfl⟩

set_option maxRecDepth 100000 in
set_option maxHeartbeats 8000000 in
theorem cf_i_t {n : Nat} (hn : n ≤ 20) (w : World) :
    Calls Try.prog 46 #[.int .i64 (n : Int)] w fun ee w' => ee = .returned (.tuple #[.int .i64 (cntI n), .bool true]) ∧ w = w' := by
  have h20 : (n : Int) ≤ 20 := by omega
  have h20b : ¬ ((n : Int) > 20) := by omega
  go_enter Try.func46, Try.ntmps46
  go_wp2_with (fail)
  go_loopg [4, 13] n (fun q s4 s13 wr => ∃ j : Nat, j + q = n ∧ s4 = .int .i64 (cntI j) ∧ s13 = .int .i64 (j : Int) ∧ w = wr)
  case atStart => exact ⟨0, by omega, by with_unfolding_all rfl, rfl, rfl⟩
  case round =>
    obtain ⟨j, hj, rfl, rfl, rfl⟩ := hrel
    cases gk with
    | zero =>
      obtain rfl : j = n := by omega
      go_wp2_with (fail)
      go_ret2
      exact ⟨rfl, rfl⟩
    | succ m =>
      have hlt : (j : Int) < (n : Int) := by omega
      have hle : (j : Int) ≤ 20 := by omega
      obtain ⟨c0, c1⟩ := cnt_tab j (by omega)
      by_cases hz : j = 0
      · subst hz
        have e1 : cntI 0 = 24 := by with_unfolding_all rfl
        have e2 : cntI 1 = 72 := by with_unfolding_all rfl
        go_wp2_with ((go_at_call 102; ((refine (la_0 _).mono ?_); rintro ee w1 ⟨rfl, rfl⟩)))
        go_roundg m
        case measure => omega
        case rel => exact ⟨1, by omega, by rw [e2], rfl, rfl⟩
      · have hnz : ¬ ((j : Int) = 0) := by omega
        have e2 := hid (cnt_s hz)
        have hw1 : IntKind.i64.wrap (cntI j * 2) = cntI j * 2 := IntWalk.i64_in _ (by omega)
        have hw2 : wrap64 (cntI j * 2) = cntI j * 2 := IntWalk.wrap64_in _ (by omega)
        obtain ⟨C, hC⟩ : ∃ C, C = cntI j := ⟨_, rfl⟩
        rw [← hC] at c0 c1 hw1 hw2 ⊢
        have HC := hid hC
        clear hC
        go_wp2_with ((go_at_call 102; ((refine (la_n hnz _).mono ?_); rintro ee w1 ⟨rfl, rfl⟩)))
        go_roundg m
        case measure => omega
        case rel => exact ⟨j + 1, by omega, by rw [e2.out, ← HC.out], by go_num, rfl⟩

set_option maxRecDepth 100000 in
set_option maxHeartbeats 4000000 in
theorem cf_i_f {n : Int} (hn : n < 0 ∨ 20 < n) (w : World) :
    Calls Try.prog 46 #[.int .i64 n] w fun ee w' => ee = .returned (.tuple #[.int .i64 0, .bool false]) ∧ w = w' := by
  rcases hn with h | h
  · go_enter Try.func46, Try.ntmps46
    go_wp2_with (fail)
    go_ret2
    exact ⟨rfl, rfl⟩
  · have h2 : ¬ (n < 0) := by omega
    have h3 : n > 20 := h
    go_enter Try.func46, Try.ntmps46
    go_wp2_with (fail)
    go_ret2
    exact ⟨rfl, rfl⟩

set_option maxRecDepth 100000 in
set_option maxHeartbeats 4000000 in
theorem lwCountForms {n : Int} (w : World) :
    Calls Try.prog 11 #[.int .i64 n] w fun ee w' => ee = .returned (.bool true) ∧ Below w.heap.size w w' := by
  by_cases h : 0 ≤ n ∧ n ≤ 20
  · obtain ⟨m, rfl⟩ : ∃ m : Nat, n = (m : Int) := ⟨n.toNat, by omega⟩
    have hm : m ≤ 20 := by omega
    obtain ⟨C, hC⟩ : ∃ C, C = cntI m := ⟨_, rfl⟩
    have HS := hid (fun w => cf_s_t hm w)
    have HI := hid (fun w => cf_i_t hm w)
    rw [← hC] at HS HI
    clear hC h hm
    go_enter Try.func11, Try.ntmps11
    go_wp2_with ((first | (go_at_call 45; ((refine (HS.out _).mono ?_); rintro ee w1 ⟨rfl, rfl⟩)) | (go_at_call 46; ((refine (HI.out _).mono ?_); rintro ee w1 ⟨rfl, rfl⟩))))
    go_ret
    exact ⟨rfl, Below.refl _ _⟩
  · have hn : n < 0 ∨ 20 < n := by omega
    have HN := hid hn
    clear h hn
    go_enter Try.func11, Try.ntmps11
    go_wp2_with ((first | (go_at_call 45; ((refine (cf_s_f HN.out _).mono ?_); rintro ee w1 ⟨rfl, rfl⟩)) | (go_at_call 46; ((refine (cf_i_f HN.out _).mono ?_); rintro ee w1 ⟨rfl, rfl⟩))))
    go_ret
    exact ⟨rfl, Below.refl _ _⟩
theorem fnExactCountForms_walk {n : Int} {w : World} :
    Calls Try.prog 11 #[.int .i64 n] w fun ee w' => ee = .returned (.bool true) ∧ Below w.heap.size w w' := lwCountForms w


end Go.Proofs.Ytofclfgaekjonaa
