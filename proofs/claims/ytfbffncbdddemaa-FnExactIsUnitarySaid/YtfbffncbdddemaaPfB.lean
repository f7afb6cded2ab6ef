/- A closed fact of the program: liftsFinal. -/
import Derived.Test.YtfbffncbdddemaaRows
namespace Go.Proofs.Ytfbffncbdddemaa
theorem pfB : Try.pinned.checked.prog.liftsFinal = false := by kernel_rfl
end Go.Proofs.Ytfbffncbdddemaa
