/- HeldB, Held -/
import Derived.Test.YtncgccpkbneagaaValid
import Derived.Deep.RegionHeld3
import Derived.Deep.MidRow
namespace Go.Proofs.Ytncgccpkbneagaa
open Go.RowKit
/-- a cell that is there: behind a call, behind a new block, behind a store of four cells into a newer block -/
theorem kc {a b : World} {k o : Nat} {v : Value} (hb : Below a.heap.size a b) (h : a.cell? ⟨k, o, none⟩ = some v) : b.cell? ⟨k, o, none⟩ = some v :=
  ((bcell hb).1 k o (World.block_lt_of_cell? a _ h)).trans h
theorem kal {a : World} {x : Obj} {k o : Nat} {v : Value} (h : a.cell? ⟨k, o, none⟩ = some v) : (a.alloc x).cell? ⟨k, o, none⟩ = some v :=
  kc ((Below.refl _ _).alloc (Nat.le_refl _) _) h
theorem ks4 {a : World} {g k o : Nat} {v v0 v1 v2 v3 : Value} (hne : g ≠ k) (h : a.cell? ⟨k, o, none⟩ = some v) : ((((a.setCell ⟨g, 0, none⟩ v0).setCell ⟨g, 1, none⟩ v1).setCell ⟨g, 2, none⟩ v2).setCell ⟨g, 3, none⟩ v3).cell? ⟨k, o, none⟩ = some v := by
  rw [World.cell?_setCell_far _ _ _ _ hne, World.cell?_setCell_far _ _ _ _ hne, World.cell?_setCell_far _ _ _ _ hne, World.cell?_setCell_far _ _ _ _ hne, h]
theorem kald {a : World} {x : Obj} {k o : Nat} {v : Value} (h : a.drew.cell? ⟨k, o, none⟩ = some v) : (a.alloc x).drew.cell? ⟨k, o, none⟩ = some v :=
  kal (a := a) h
/-- a store that is folded into the new block -/
theorem kre {a : World} {x y : Obj} {k o : Nat} {v : Value} (hk : k < a.heap.size) (h : (a.alloc x).cell? ⟨k, o, none⟩ = some v) : (a.alloc y).cell? ⟨k, o, none⟩ = some v := by
  rw [World.cell?_alloc_lt _ _ _ hk]
  rw [World.cell?_alloc_lt _ _ _ hk] at h
  exact h
end Go.Proofs.Ytncgccpkbneagaa
namespace Go.Proofs.Ytncgccpkbneagaa
open Go.RowKit
theorem bcell_drew {W w1 : World} (hb : Below W.drew.heap.size W.drew w1) : (∀ b o, b < W.heap.size → w1.cell? ⟨b, o, none⟩ = W.cell? ⟨b, o, none⟩) ∧ (∀ b o, b < W.heap.size → w1.frozen? ⟨b, o, none⟩ = W.frozen? ⟨b, o, none⟩) ∧ W.heap.size ≤ w1.heap.size :=
  bcell (W := W.drew) hb
theorem kp_cell {w0 a b : World} {B k o : Nat} {v : Value} (hb : Below a.heap.size a b) (h : a.cell? ⟨k, o, none⟩ = some v) (hO : Below B w0 a) (hk : k < w0.heap.size) : b.cell? ⟨k, o, none⟩ = some v :=
  ((bcell hb).1 k o (Nat.lt_of_lt_of_le hk hO.size)).trans h
theorem kp_frozen {w0 a b : World} {B k o : Nat} (hb : Below a.heap.size a b) (h : a.frozen? ⟨k, o, none⟩ = false) (hO : Below B w0 a) (hk : k < w0.heap.size) : b.frozen? ⟨k, o, none⟩ = false :=
  ((bcell hb).2.1 k o (Nat.lt_of_lt_of_le hk hO.size)).trans h
theorem kp_below {w0 a b : World} {B : Nat} (hb : Below a.heap.size a b) (hO : Below B w0 a) (hB : B ≤ w0.heap.size) : Below B w0 b := chain hO hb (Nat.le_trans hB hO.size)
theorem kp_set {w0 a : World} {B : Nat} (hO : Below B w0 a) (p : Addr) (v : Value) (hp : B ≤ p.block) : Below B w0 (a.setCell p v) := hO.setCell hp v
/-- behind a store of four cells into a block that is no older than w0's end -/
theorem ks4_below {w0 a : World} {g : Nat} {v0 v1 v2 v3 : Value} (hg : w0.heap.size ≤ g) (hO : Below w0.heap.size w0 a) : Below w0.heap.size w0 ((((a.setCell ⟨g, 0, none⟩ v0).setCell ⟨g, 1, none⟩ v1).setCell ⟨g, 2, none⟩ v2).setCell ⟨g, 3, none⟩ v3) :=
  (((hO.setCell (p := ⟨g, 0, none⟩) hg _).setCell (p := ⟨g, 1, none⟩) hg _).setCell (p := ⟨g, 2, none⟩) hg _).setCell (p := ⟨g, 3, none⟩) hg _
theorem ks4_cell {w0 a : World} {g k o : Nat} {v v0 v1 v2 v3 : Value} (hg : w0.heap.size ≤ g) (h : a.cell? ⟨k, o, none⟩ = some v) (hk : k < w0.heap.size) : ((((a.setCell ⟨g, 0, none⟩ v0).setCell ⟨g, 1, none⟩ v1).setCell ⟨g, 2, none⟩ v2).setCell ⟨g, 3, none⟩ v3).cell? ⟨k, o, none⟩ = some v := by
  have hne : g ≠ k := by omega
  rw [World.cell?_setCell_far _ _ _ _ hne, World.cell?_setCell_far _ _ _ _ hne, World.cell?_setCell_far _ _ _ _ hne, World.cell?_setCell_far _ _ _ _ hne, h]
end Go.Proofs.Ytncgccpkbneagaa
