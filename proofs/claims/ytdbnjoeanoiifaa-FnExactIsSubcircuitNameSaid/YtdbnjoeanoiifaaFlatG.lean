/- Contracts of what the laws call on gates and slices of gates. -/
import Derived.Test.YtdbnjoeanoiifaaFlat
import Derived.StillTailTactics
namespace Go.Proofs.Ytdbnjoeanoiifaa
open Go.RowKit
set_option linter.unusedVariables false
set_option linter.unusedSimpArgs false
attribute [local irreducible] World.setCell

theorem infoGate : (Try.prog.info? 81).map (fun i => (i.zero, i.size, i.bytes)) = some (some (.agg #[.int .i64 0, .int .i64 0, .int .i64 0]), 3, 24) := by kernel_rfl
theorem mkGate (n : Nat) (hn : n ≤ 1048576) (w : World) : (Instr.makeSlice 40 (.int .i64 (n : Int)) (.int .i64 (n : Int))).run Try.prog w = .ok (.slice (some ⟨w.heap.size, 0, none⟩) n n) (w.alloc (.cells (gateE.all (List.replicate n GateV.z)).toArray 81)) := by
  obtain ⟨i0, hi, hz0, hz1, hz2⟩ := info_parts infoGate
  have := run_make (P := Try.prog) w 40 81 i0 _ Try.underlying40 hi hz0 .i64 .i64 n n (by omega) (Int.le_refl _) (by rw [hz2]; omega) (by omega)
  rw [this, hz1]
  simp only [Int.toNat_natCast, Value.cells]
  have hm : madeCells #[.int .i64 0, .int .i64 0, .int .i64 0] (n * gateE.n) = _ := madeE (E := gateE) (z := GateV.z) rfl n
  rw [← hm]
  rfl

end Go.Proofs.Ytdbnjoeanoiifaa
