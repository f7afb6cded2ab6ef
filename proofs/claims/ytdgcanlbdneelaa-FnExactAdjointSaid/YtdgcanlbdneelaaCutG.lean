/- A meeting of ways: what its slots hold, and what the world holds. -/
import Derived.Test.YtdgcanlbdneelaaLs3
import Derived.Test.YtdgcanlbdneelaaHeldB
import Derived.Deep.RegionHeld3
import Derived.Deep.DeepCutAuto
namespace Go.Proofs.Ytdgcanlbdneelaa
open Go.RowKit
/-- what the slots hold and what the world holds -/
def CutG (R : Prop) (P : Prop) : Prop := R ∧ P
end Go.Proofs.Ytdgcanlbdneelaa
