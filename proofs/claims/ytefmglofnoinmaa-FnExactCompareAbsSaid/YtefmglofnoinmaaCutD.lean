/- What is held behind the first statement of a law of two dyadic numbers. -/
import Derived.Test.YtefmglofnoinmaaDyA
import Derived.Test.YtefmglofnoinmaaHeld
import Derived.Test.YtefmglofnoinmaaRingS
import Derived.Deep.LoopGhost
import Derived.Test.YtefmglofnoinmaaHeldB
import Derived.Deep.RegionHeld3
import Derived.Deep.MidRow
import Derived.Deep.DeepCutAuto
namespace Go.Proofs.Ytefmglofnoinmaa
open Go.RowKit RM
set_option linter.unusedVariables false
set_option linter.unusedSimpArgs false
attribute [local irreducible] World.setCell
/-- what stands behind the first statement of such a law: the two arguments; the model's answer in a new block -/
structure CutD (w : World) (a b c d e p q r s t r0 r1 r2 r3 r4 : Int) (ok : Bool) (s5 s6 : Value) (W : World) : Prop where
  sl : ∃ g, s5 = .pointer (some ⟨g, 0, none⟩) ∧ W.cell? ⟨g, 0, none⟩ = some (.int .i64 r0) ∧ W.cell? ⟨g, 1, none⟩ = some (.int .i64 r1) ∧ W.cell? ⟨g, 2, none⟩ = some (.int .i64 r2) ∧ W.cell? ⟨g, 3, none⟩ = some (.int .i64 r3) ∧ W.cell? ⟨g, 4, none⟩ = some (.int .i64 r4)
  ss : s6 = .bool ok
  xa : W.cell? ⟨w.heap.size, 0, none⟩ = some (.int .i64 a) ∧ W.cell? ⟨w.heap.size, 1, none⟩ = some (.int .i64 b) ∧ W.cell? ⟨w.heap.size, 2, none⟩ = some (.int .i64 c) ∧ W.cell? ⟨w.heap.size, 3, none⟩ = some (.int .i64 d) ∧ W.cell? ⟨w.heap.size, 4, none⟩ = some (.int .i64 e)
  xp : W.cell? ⟨w.heap.size + 1, 0, none⟩ = some (.int .i64 p) ∧ W.cell? ⟨w.heap.size + 1, 1, none⟩ = some (.int .i64 q) ∧ W.cell? ⟨w.heap.size + 1, 2, none⟩ = some (.int .i64 r) ∧ W.cell? ⟨w.heap.size + 1, 3, none⟩ = some (.int .i64 s) ∧ W.cell? ⟨w.heap.size + 1, 4, none⟩ = some (.int .i64 t)
  bel : Below w.heap.size w W
/-- the same where the answer is a number -/
structure CutN (w : World) (a b c d e p q r s t u : Int) (ok : Bool) (s5 s6 : Value) (W : World) : Prop where
  sl : s5 = .int .i64 u
  ss : s6 = .bool ok
  xa : W.cell? ⟨w.heap.size, 0, none⟩ = some (.int .i64 a) ∧ W.cell? ⟨w.heap.size, 1, none⟩ = some (.int .i64 b) ∧ W.cell? ⟨w.heap.size, 2, none⟩ = some (.int .i64 c) ∧ W.cell? ⟨w.heap.size, 3, none⟩ = some (.int .i64 d) ∧ W.cell? ⟨w.heap.size, 4, none⟩ = some (.int .i64 e)
  xp : W.cell? ⟨w.heap.size + 1, 0, none⟩ = some (.int .i64 p) ∧ W.cell? ⟨w.heap.size + 1, 1, none⟩ = some (.int .i64 q) ∧ W.cell? ⟨w.heap.size + 1, 2, none⟩ = some (.int .i64 r) ∧ W.cell? ⟨w.heap.size + 1, 3, none⟩ = some (.int .i64 s) ∧ W.cell? ⟨w.heap.size + 1, 4, none⟩ = some (.int .i64 t)
  bel : Below w.heap.size w W
end Go.Proofs.Ytefmglofnoinmaa
