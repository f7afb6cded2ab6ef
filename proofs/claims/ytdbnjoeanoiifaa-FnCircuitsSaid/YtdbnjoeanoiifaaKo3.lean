/- slices.Grow of gates. -/
import Derived.Test.YtdbnjoeanoiifaaKo2
import Derived.Lib.AppendZerosOnto
import Derived.Lib.Walk
namespace Go.Proofs.Ytdbnjoeanoiifaa
open Go.RowKit
set_option linter.unusedVariables false
set_option linter.unusedSimpArgs false
attribute [local irreducible] World.setCell

/-- an empty slice with room -/
def Room (w : World) (ee : Ending) (w' : World) : Prop := ∃ (A : Option Addr) (cp : Nat), ee = .returned (.slice A 0 cp) ∧ Own gateE w' w.heap.size 81 (.slice A 0 cp) [] ∧ Below w.heap.size w w'
set_option maxRecDepth 100000 in
set_option maxHeartbeats 4000000 in
theorem grow0 {w : World} :
    Calls Try.prog 81 #[.slice none 0 0, .int .i64 0] w fun ee w' => Room w ee w' := by
  go_enter Try.func81, Try.ntmps81
  go_wp2_with (fail)
  go_ret
  exact ⟨none, 0, rfl, Own.nil _ _ _, by (repeat' (first | (with_reducible exact Below.refl _ _) | (with_reducible assumption) | (with_reducible refine Below.alloc ?_ ?_ _) | (with_reducible refine Below.drew ?_) | (with_reducible refine bdN ?_ _) | (with_reducible refine Below.setCell ?_ ?_ _) | (with_reducible refine chn ?_ (by assumption) ?_) | omega | (simp; done) | (simp; omega)))⟩

set_option maxRecDepth 100000 in
set_option maxHeartbeats 4000000 in
theorem grow1 {n : Nat} {w : World} (h0 : 0 < n) (hn : n ≤ 800) :
    Calls Try.prog 81 #[.slice none 0 0, .int .i64 (n : Int)] w fun ee w' => Room w ee w' := by
  obtain ⟨i0, hi0, iz0, iz1, iz2⟩ := info_parts infoGate
  have h1 : ¬ ((n : Int) < 0) := by omega
  have h4 : (n : Int) > 0 := by omega
  have hold : (Builtin.firstCells i0.size 0 (.slice none 0 0)).run Try.prog w.drew = .ok (#[] : Array Value) w.drew := run_firstCells_none w.drew i0.size 0 0 0
  have hrz : ∀ ty, (Builtin.append_ #[40, 3] ty #[.slice none 0 0, .int .i64 (n : Int)]).run Try.prog w =
      .ok (.slice (some ⟨w.heap.size, 0, none⟩) n (grownCap w n 0 81)) (w.drew.alloc (.cells (#[] ++ Builtin.zeroCells #[.int .i64 0, .int .i64 0, .int .i64 0] n ++ Builtin.zeroCells #[.int .i64 0, .int .i64 0, .int .i64 0] (grownCap w n 0 81 - n)) 81)) := fun ty => by
    have h := Lib.run_append_grow_zeros w 40 3 ty 81 i0 _ .i64 .i64 Try.underlying40 Try.underlying3 hi0 iz0 none 0 0 [] hold n h0 (by rw [iz1]; decide) (by omega) (by omega)
      (by rw [iz2]; omega) (growslice_fits (by omega) (by rw [iz2]; omega))
    rw [Nat.zero_add] at h
    exact h
  have hGn : n ≤ grownCap w n 0 81 := grownCap_ge w _ _ _
  have hG63 : grownCap w n 0 81 ≤ maxLen := grownCap_le_maxLen w n 0 81 (by unfold maxLen; omega)
  obtain ⟨C, hC⟩ : ∃ C, C = grownCap w n 0 81 := ⟨_, rfl⟩
  rw [← hC] at hrz hGn hG63
  have hG64 : C ≤ 9223372036854775807 := by unfold maxLen at hG63; omega
  have hsz : (#[] ++ Builtin.zeroCells #[.int .i64 0, .int .i64 0, .int .i64 0] n ++ Builtin.zeroCells #[.int .i64 0, .int .i64 0, .int .i64 0] (C - n) : Array Value).size = C * 3 := by
    rw [Array.size_append, Array.size_append, size_zeroCells, size_zeroCells]
    show 0 + n * 3 + (C - n) * 3 = _
    rw [Nat.zero_add, ← Nat.add_mul]
    congr 1
    omega
  obtain ⟨cur, hcur⟩ : ∃ cur, cur = (#[] ++ Builtin.zeroCells #[.int .i64 0, .int .i64 0, .int .i64 0] n ++ Builtin.zeroCells #[.int .i64 0, .int .i64 0, .int .i64 0] (C - n) : Array Value) := ⟨_, rfl⟩
  rw [← hcur] at hsz hrz
  have HSZ := lay hsz
  clear hsz hcur hold hC
  go_enter Try.func81, Try.ntmps81
  go_wp2_with (at_builtin; refine Lib.wpList_append_run _ rfl _ _ _ _ rfl _ _ rfl rfl _ _ (hrz _) ?_)
  all_goals (go_ret; exact ⟨_, C, rfl, Own.made rfl (by first | exact Nat.le_refl _ | (simp; done)) hG63 HSZ.out, by (repeat' (first | (with_reducible exact Below.refl _ _) | (with_reducible assumption) | (with_reducible refine Below.alloc ?_ ?_ _) | (with_reducible refine Below.drew ?_) | (with_reducible refine bdN ?_ _) | (with_reducible refine Below.setCell ?_ ?_ _) | (with_reducible refine chn ?_ (by assumption) ?_) | omega | (simp; done) | (simp; omega)))⟩)

end Go.Proofs.Ytdbnjoeanoiifaa
