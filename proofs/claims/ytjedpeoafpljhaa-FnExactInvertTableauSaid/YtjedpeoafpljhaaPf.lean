/- Contracts of what the laws call on Pauli operators. -/
import Derived.Test.YtjedpeoafpljhaaPfD
import Derived.StillTailTactics
namespace Go.Proofs.Ytjedpeoafpljhaa.C4
open Go.RowKit
set_option linter.unusedVariables false
set_option linter.unusedSimpArgs false
attribute [local irreducible] World.setCell

theorem infoPauli : (Try.prog.info? 43).map (fun i => (i.zero, i.size, i.bytes)) = some (some (.agg #[.int .i64 0, .int .i64 0, .int .i64 0]), 3, 24) := by kernel_rfl
theorem mkPauli (n : Nat) (hn : n ≤ 1048576) (w : World) : (Instr.makeSlice 51 (.int .i64 (n : Int)) (.int .i64 (n : Int))).run Try.prog w = .ok (.slice (some ⟨w.heap.size, 0, none⟩) n n) (w.alloc (.cells (pauliE.all (List.replicate n PauliV.z)).toArray 43)) := by
  obtain ⟨i0, hi, hz0, hz1, hz2⟩ := info_parts infoPauli
  have := run_make (P := Try.prog) w 51 43 i0 _ Try.underlying51 hi hz0 .i64 .i64 n n (by omega) (Int.le_refl _) (by rw [hz2]; omega) (by omega)
  rw [this, hz1]
  simp only [Int.toNat_natCast, Value.cells]
  have hm : madeCells #[.int .i64 0, .int .i64 0, .int .i64 0] (n * pauliE.n) = _ := madeE (E := pauliE) (z := PauliV.z) rfl n
  rw [← hm]
  rfl

set_option maxRecDepth 100000 in
set_option maxHeartbeats 2000000 in
theorem toPauli (x : PauliV) (w : World) :
    Calls Try.prog 24 #[x.v] w fun ee w' => ee = .returned x.v ∧ Below w.heap.size w w' := by
  go_enter Try.func24, Try.ntmps24
  go_wp2_with (fail)
  refine bodyPost_ret (v := x.v) (by first | (simp [results, Try.results24, go_sem, *]; done) | (simp (disch := (first | omega | (simp; done) | (simp; omega))) [results, Try.results24, go_sem, *]; done) | (simp only [results, Try.results24]; go_simp; done)) rfl ⟨rfl, ?_⟩
  (repeat' (first | (with_reducible exact Below.refl _ _) | (with_reducible assumption) | (with_reducible refine Below.alloc ?_ ?_ _) | (with_reducible refine Below.drew ?_) | (with_reducible refine bdN ?_ _) | (with_reducible refine Below.setCell ?_ ?_ _) | (with_reducible refine chn ?_ (by assumption) ?_) | omega | (simp; done) | (simp; omega)))

set_option maxRecDepth 100000 in
set_option maxHeartbeats 2000000 in
theorem eqPauli (x : PauliV) (w : World) :
    Calls Try.prog 48 #[x.v, x.v] w fun ee w' => ee = .returned (.bool true) ∧ Below w.heap.size w w' := by
  go_enter Try.func48, Try.ntmps48
  go_wp2_with (fail)
  go_ret
  refine ⟨rfl, ?_⟩
  (repeat' (first | (with_reducible exact Below.refl _ _) | (with_reducible assumption) | (with_reducible refine Below.alloc ?_ ?_ _) | (with_reducible refine Below.drew ?_) | (with_reducible refine bdN ?_ _) | (with_reducible refine Below.setCell ?_ ?_ _) | (with_reducible refine chn ?_ (by assumption) ?_) | omega | (simp; done) | (simp; omega)))

end Go.Proofs.Ytjedpeoafpljhaa.C4
