/- More small laws for regions: a cell that is there stays. -/
import Derived.Test.YtofclfgaekjonaaDoorValid
import Derived.Deep.RegionHeld3
namespace Go.Proofs.YtofclfgaekjonaaDoor
open Go.RowKit
/-- a cell that is there: behind a call, behind a new block, behind a store of four cells into a newer block -/
theorem kc {a b : World} {k o : Nat} {v : Value} (hb : Below a.heap.size a b) (h : a.cell? ⟨k, o, none⟩ = some v) : b.cell? ⟨k, o, none⟩ = some v :=
  ((bcell hb).1 k o (World.block_lt_of_cell? a _ h)).trans h
theorem kal {a : World} {x : Obj} {k o : Nat} {v : Value} (h : a.cell? ⟨k, o, none⟩ = some v) : (a.alloc x).cell? ⟨k, o, none⟩ = some v :=
  kc ((Below.refl _ _).alloc (Nat.le_refl _) _) h
theorem ks4 {a : World} {g k o : Nat} {v v0 v1 v2 v3 : Value} (hne : g ≠ k) (h : a.cell? ⟨k, o, none⟩ = some v) : ((((a.setCell ⟨g, 0, none⟩ v0).setCell ⟨g, 1, none⟩ v1).setCell ⟨g, 2, none⟩ v2).setCell ⟨g, 3, none⟩ v3).cell? ⟨k, o, none⟩ = some v := by
  rw [World.cell?_setCell_far _ _ _ _ hne, World.cell?_setCell_far _ _ _ _ hne, World.cell?_setCell_far _ _ _ _ hne, World.cell?_setCell_far _ _ _ _ hne, h]
theorem kald {a : World} {x : Obj} {k o : Nat} {v : Value} (h : a.drew.cell? ⟨k, o, none⟩ = some v) : (a.alloc x).drew.cell? ⟨k, o, none⟩ = some v :=
  kal (a := a) h
/-- a store that is folded into the new block -/
theorem kre {a : World} {x y : Obj} {k o : Nat} {v : Value} (hk : k < a.heap.size) (h : (a.alloc x).cell? ⟨k, o, none⟩ = some v) : (a.alloc y).cell? ⟨k, o, none⟩ = some v := by
  rw [World.cell?_alloc_lt _ _ _ hk]
  rw [World.cell?_alloc_lt _ _ _ hk] at h
  exact h
end Go.Proofs.YtofclfgaekjonaaDoor
