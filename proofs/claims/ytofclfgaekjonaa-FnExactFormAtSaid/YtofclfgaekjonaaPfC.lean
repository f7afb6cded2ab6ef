/- A closed fact of the program: make. -/
import Derived.Test.YtofclfgaekjonaaPfA
namespace Go.Proofs.Ytofclfgaekjonaa
set_option linter.unusedSimpArgs false
theorem make_of (P : Program) (R : List (List Char)) (hR : behindMainWord (wordsSigns P.initOrder.toList) = [Char.ofNat 99, Char.ofNat 117, Char.ofNat 116] :: R) : P.make = some .cut := by
  unfold Program.make
  rw [hR]
  kernel_rfl
theorem pfC : Try.pinned.checked.prog.make = some .cut := by
  obtain ⟨R, hR⟩ := pfM
  exact make_of _ R hR
end Go.Proofs.Ytofclfgaekjonaa
