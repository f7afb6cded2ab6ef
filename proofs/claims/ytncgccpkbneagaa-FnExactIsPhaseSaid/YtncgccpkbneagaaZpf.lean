/- PfA, PfB, PfC -/
import Derived.Test.YtncgccpkbneagaaRows
namespace Go.Proofs.Ytncgccpkbneagaa
theorem pfA : Try.pinned.checked.prog.mayEnter = true := by kernel_rfl
end Go.Proofs.Ytncgccpkbneagaa
namespace Go.Proofs.Ytncgccpkbneagaa
theorem pfB : Try.pinned.checked.prog.liftsFinal = false := by kernel_rfl
end Go.Proofs.Ytncgccpkbneagaa
namespace Go.Proofs.Ytncgccpkbneagaa
theorem pfC : Try.pinned.checked.prog.make = some .cut := by kernel_rfl
end Go.Proofs.Ytncgccpkbneagaa
