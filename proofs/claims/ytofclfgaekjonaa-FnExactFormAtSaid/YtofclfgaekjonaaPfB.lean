/- A closed fact of the program: liftsFinal. -/
import Derived.Test.YtofclfgaekjonaaPfA
namespace Go.Proofs.Ytofclfgaekjonaa
set_option linter.unusedSimpArgs false
theorem liftsFinal_of (P : Program) (R : List (List Char)) (hR : behindMainWord (wordsSigns P.initOrder.toList) = [Char.ofNat 99, Char.ofNat 117, Char.ofNat 116] :: R) : P.liftsFinal = false := by
  unfold Program.liftsFinal Program.headLifts
  rw [hR, pfS]
  kernel_rfl
theorem pfB : Try.pinned.checked.prog.liftsFinal = false := by
  obtain ⟨R, hR⟩ := pfM
  exact liftsFinal_of _ R hR
end Go.Proofs.Ytofclfgaekjonaa
