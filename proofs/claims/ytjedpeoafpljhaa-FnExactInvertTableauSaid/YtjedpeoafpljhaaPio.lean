/- ImageOf. -/
import Derived.Test.YtjedpeoafpljhaaPimi
import Derived.Test.YtjedpeoafpljhaaPims
import Derived.Test.YtjedpeoafpljhaaPtva
namespace Go.Proofs.Ytjedpeoafpljhaa.C4
open Go.RowKit
set_option linter.unusedVariables false
set_option linter.unusedSimpArgs false
attribute [local irreducible] World.setCell

theorem TOk_L {n : Nat} {xs zs : List PauliV} (h : okU n (xs ++ zs) (n + n)) (hn : xs.length = n) (hm : zs.length = n) : okL n xs ∧ okL n zs := by
  refine ⟨⟨hn, fun k x hx => ?_⟩, hm, fun k x hx => ?_⟩
  · have hk := (List.getElem?_eq_some_iff.1 hx).1
    exact (h k x (by omega) (by rw [List.getElem?_append_left hk]; exact hx)).1
  · have hk := (List.getElem?_eq_some_iff.1 hx).1
    exact (h (n + k) x (by omega) (by rw [List.getElem?_append_right (by omega), hn, Nat.add_sub_cancel_left]; exact hx)).1
end Go.Proofs.Ytjedpeoafpljhaa.C4
