/- Contracts of the loop that brings a number into lowest form: the model's and the program's. -/
import Derived.Test.YtdbnjoeanoiifaaDoorDyB
import Derived.Deep.LoopGhost
namespace Go.Proofs.YtdbnjoeanoiifaaDoor
open Go.RowKit RM
set_option linter.unusedVariables false
set_option linter.unusedSimpArgs false
attribute [local irreducible] World.setCell

/-- a block holds these four numbers, and may be written -/
structure C4 (W : World) (g : Nat) (a b c d : Int) : Prop where
  c0 : W.cell? ⟨g, 0, none⟩ = some (.int .i64 a)
  c1 : W.cell? ⟨g, 1, none⟩ = some (.int .i64 b)
  c2 : W.cell? ⟨g, 2, none⟩ = some (.int .i64 c)
  c3 : W.cell? ⟨g, 3, none⟩ = some (.int .i64 d)
  f0 : W.frozen? ⟨g, 0, none⟩ = false
  f1 : W.frozen? ⟨g, 1, none⟩ = false
  f2 : W.frozen? ⟨g, 2, none⟩ = false
  f3 : W.frozen? ⟨g, 3, none⟩ = false
/-- the same, with an exponent behind -/
structure C5 (W : World) (g : Nat) (a b c d e : Int) : Prop where
  c0 : W.cell? ⟨g, 0, none⟩ = some (.int .i64 a)
  c1 : W.cell? ⟨g, 1, none⟩ = some (.int .i64 b)
  c2 : W.cell? ⟨g, 2, none⟩ = some (.int .i64 c)
  c3 : W.cell? ⟨g, 3, none⟩ = some (.int .i64 d)
  c4 : W.cell? ⟨g, 4, none⟩ = some (.int .i64 e)
  f0 : W.frozen? ⟨g, 0, none⟩ = false
  f1 : W.frozen? ⟨g, 1, none⟩ = false
  f2 : W.frozen? ⟨g, 2, none⟩ = false
  f3 : W.frozen? ⟨g, 3, none⟩ = false
  f4 : W.frozen? ⟨g, 4, none⟩ = false
theorem C4.lt {W : World} {g : Nat} {a b c d : Int} (h : C4 W g a b c d) : g < W.heap.size := World.block_lt_of_cell? W _ h.c0
theorem C5.lt {W : World} {g : Nat} {a b c d e : Int} (h : C5 W g a b c d e) : g < W.heap.size := World.block_lt_of_cell? W _ h.c0
end Go.Proofs.YtdbnjoeanoiifaaDoor
