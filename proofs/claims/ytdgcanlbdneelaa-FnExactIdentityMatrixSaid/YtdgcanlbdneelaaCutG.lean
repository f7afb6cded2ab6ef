/- A meeting of ways: what its slots hold, and what the world holds. -/
import Derived.Test.YtdgcanlbdneelaaLs3
import Derived.Test.YtdgcanlbdneelaaHeldB
import Derived.Deep.RegionHeld3
import Derived.Deep.DeepCutAuto
namespace Go.Proofs.Ytdgcanlbdneelaa
open Go.RowKit
theorem kst3 {a : World} {g k o : Nat} {v v0 v1 v2 : Value} (hne : g ≠ k) (h : a.cell? ⟨k, o, none⟩ = some v) : (((a.setCell ⟨g, 0, none⟩ v0).setCell ⟨g, 1, none⟩ v1).setCell ⟨g, 2, none⟩ v2).cell? ⟨k, o, none⟩ = some v := by
  rw [World.cell?_setCell_far _ _ _ _ hne, World.cell?_setCell_far _ _ _ _ hne, World.cell?_setCell_far _ _ _ _ hne, h]
/-- what the slots hold and what the world holds -/
def CutG (R : Prop) (P : Prop) : Prop := R ∧ P
end Go.Proofs.Ytdgcanlbdneelaa
