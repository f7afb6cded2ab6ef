/- IdentityTableau. -/
import Derived.Test.YtjedpeoafpljhaaPis
import Derived.Test.YtjedpeoafpljhaaPid
import Derived.Test.YtjedpeoafpljhaaPt
namespace Go.Proofs.Ytjedpeoafpljhaa.C4
open Go.RowKit
set_option linter.unusedVariables false
set_option linter.unusedSimpArgs false
attribute [local irreducible] World.setCell

theorem Ow2.rd {W : World} {B : Nat} {vx vz : Value} {xs zs : List PauliV} (h : Ow2 W B vx vz xs zs) : ∃ (A1 : Option Addr) (c1 : Nat) (A2 : Option Addr) (c2 : Nat), vx = .slice A1 xs.length c1 ∧ vz = .slice A2 zs.length c2 ∧ (Rd pauliE W A1 xs ∧ ∀ a, A1 = some a → B ≤ a.block ∧ a.block < W.heap.size) ∧ (Rd pauliE W A2 zs ∧ ∀ a, A2 = some a → B ≤ a.block ∧ a.block < W.heap.size) := by
  obtain ⟨A1, c1, e1, r1, l1⟩ := h.1.form
  obtain ⟨A2, c2, e2, r2, l2⟩ := h.2.1.form
  exact ⟨A1, c1, A2, c2, e1, e2, ⟨r1, l1⟩, r2, l2⟩
end Go.Proofs.Ytjedpeoafpljhaa.C4
