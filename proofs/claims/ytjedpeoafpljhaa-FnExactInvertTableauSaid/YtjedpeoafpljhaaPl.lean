/- Letters. -/
import Derived.Test.YtjedpeoafpljhaaPn
import Derived.BigQuiet
import Derived.Deep.QuietTactic
namespace Go.Proofs.Ytjedpeoafpljhaa.C4
open Go.RowKit
set_option linter.unusedVariables false
set_option linter.unusedSimpArgs false
attribute [local irreducible] World.setCell

set_option maxRecDepth 100000 in
set_option maxHeartbeats 2000000 in
theorem lat {p : Int} {x z q : Nat} (hx : x < 32) (hz : z < 32) (hq : q < 5) (w : World) :
    Calls Try.prog 75 #[.agg #[.int .i64 p, .int .i64 (x : Int), .int .i64 (z : Int)], .int .i64 (q : Int)] w fun ee w' => ee = .returned (.int .i64 ((lt x z q : Nat) : Int)) ∧ Below w.heap.size w w' := by
  have H := lay (lt_w hx hz (Nat.lt_succ_of_lt hq))
  go_enter Try.func75, Try.ntmps75
  go_wp2_with (fail)
  go_quiet (fail)
  go_wp2_with (fail)
  go_ret
  refine ⟨ret_int ?_, ?_⟩
  · exact H.out
  · (repeat' (first | (with_reducible exact Below.refl _ _) | (with_reducible assumption) | (with_reducible refine Below.alloc ?_ ?_ _) | (with_reducible refine Below.drew ?_) | (with_reducible refine bdN ?_ _) | (with_reducible refine Below.setCell ?_ ?_ _) | (with_reducible refine chn ?_ (by assumption) ?_) | omega | (simp; done) | (simp; omega)))

set_option maxRecDepth 100000 in
set_option maxHeartbeats 2000000 in
theorem l7l {p : Int} {x z q : Nat} (hx : x < 32) (hz : z < 32) (hq : q < 5) (w : World) :
    Calls Try.prog 129 #[.agg #[.int .i64 p, .int .i64 (x : Int), .int .i64 (z : Int)], .int .i64 (q : Int)] w fun ee w' => ee = .returned (.int .i64 ((lt x z q : Nat) : Int)) ∧ Below w.heap.size w w' := by
  have H := lay (lt_w hx hz (Nat.lt_succ_of_lt hq))
  go_enter Try.func129, Try.ntmps129
  go_wp2_with (fail)
  go_ret
  refine ⟨ret_int ?_, ?_⟩
  · exact H.out
  · (repeat' (first | (with_reducible exact Below.refl _ _) | (with_reducible assumption) | (with_reducible refine Below.alloc ?_ ?_ _) | (with_reducible refine Below.drew ?_) | (with_reducible refine bdN ?_ _) | (with_reducible refine Below.setCell ?_ ?_ _) | (with_reducible refine chn ?_ (by assumption) ?_) | omega | (simp; done) | (simp; omega)))

set_option maxRecDepth 100000 in
theorem sg_at {x z : Nat} (hx : x < 4) (hz : z < 4) : ([.int .i64 0, .int .i64 0, .int .i64 0, .int .i64 0, .int .i64 0, .int .i64 0, .int .i64 3, .int .i64 1, .int .i64 0, .int .i64 1, .int .i64 0, .int .i64 3, .int .i64 0, .int .i64 3, .int .i64 1, .int .i64 0] : List Value)[x * 4 + z]? = some (.int .i64 ((sg x z : Nat) : Int)) := by
  rcases (show x = 0 ∨ x = 1 ∨ x = 2 ∨ x = 3 by omega) with rfl | rfl | rfl | rfl <;> rcases (show z = 0 ∨ z = 1 ∨ z = 2 ∨ z = 3 by omega) with rfl | rfl | rfl | rfl <;> rfl
set_option maxRecDepth 100000 in
set_option maxHeartbeats 2000000 in
theorem l7s {x z : Nat} (hx : x < 4) (hz : z < 4) (w : World) :
    Calls Try.prog 199 #[.int .i64 (x : Int), .int .i64 (z : Int)] w fun ee w' => ee = .returned (.int .i64 ((sg x z : Nat) : Int)) ∧ Below w.heap.size w w' := by
  have H := sg_at hx hz
  go_enter Try.func199, Try.ntmps199
  go_wp2_with (fail)
  go_ret
  refine ⟨rfl, ?_⟩
  (repeat' (first | (with_reducible exact Below.refl _ _) | (with_reducible assumption) | (with_reducible refine Below.alloc ?_ ?_ _) | (with_reducible refine Below.drew ?_) | (with_reducible refine bdN ?_ _) | (with_reducible refine Below.setCell ?_ ?_ _) | (with_reducible refine chn ?_ (by assumption) ?_) | omega | (simp; done) | (simp; omega)))

end Go.Proofs.Ytjedpeoafpljhaa.C4
