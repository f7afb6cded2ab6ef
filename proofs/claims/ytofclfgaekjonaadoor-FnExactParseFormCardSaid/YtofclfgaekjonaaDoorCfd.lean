/- Small contracts of chapter 10. -/
import Derived.Test.YtofclfgaekjonaaDoorValid
namespace Go.Proofs.YtofclfgaekjonaaDoor
open Go.RowKit RM
set_option linter.unusedVariables false
set_option linter.unusedSimpArgs false
attribute [local irreducible] World.setCell

set_option maxRecDepth 100000 in
set_option maxHeartbeats 4000000 in
theorem in_t {n a b : Int} (h1 : a ≤ n) (h2 : n ≤ b) (w : World) :
    Calls Tryd.prog 36 #[.int .i64 n, .int .i64 a, .int .i64 b] w fun ee w' => ee = .returned (.bool true) ∧ w = w' := by
  go_enter Tryd.func36, Tryd.ntmps36
  go_wp2_with (fail)
  go_ret
  exact ⟨rfl, rfl⟩

set_option maxRecDepth 100000 in
set_option maxHeartbeats 4000000 in
theorem in_f {n a b : Int} (h : n < a ∨ b < n) (w : World) :
    Calls Tryd.prog 36 #[.int .i64 n, .int .i64 a, .int .i64 b] w fun ee w' => ee = .returned (.bool false) ∧ w = w' := by
  by_cases h1 : a ≤ n
  · have h2 : b < n := by omega
    have h3 : ¬ (n ≤ b) := by omega
    clear h
    go_enter Tryd.func36, Tryd.ntmps36
    go_wp2_with (fail)
    go_ret
    exact ⟨rfl, rfl⟩
  · have h3 : n < a := by omega
    clear h
    go_enter Tryd.func36, Tryd.ntmps36
    go_wp2_with (fail)
    go_ret
    exact ⟨rfl, rfl⟩

set_option maxRecDepth 100000 in
set_option maxHeartbeats 4000000 in
theorem la_0 (w : World) :
    Calls Tryd.prog 40 #[.int .i64 0] w fun ee w' => ee = .returned (.string (ByteArray.mk #[84, 72, 83])) ∧ w = w' := by
  go_enter Tryd.func40, Tryd.ntmps40
  go_wp2_with (fail)
  go_ret
  exact ⟨rfl, rfl⟩

set_option maxRecDepth 100000 in
set_option maxHeartbeats 4000000 in
theorem la_n {n : Int} (h : ¬ (n = 0)) (w : World) :
    Calls Tryd.prog 40 #[.int .i64 n] w fun ee w' => ee = .returned (.string (ByteArray.mk #[72, 83])) ∧ w = w' := by
  go_enter Tryd.func40, Tryd.ntmps40
  go_wp2_with (fail)
  go_ret
  exact ⟨rfl, rfl⟩


end Go.Proofs.YtofclfgaekjonaaDoor
