/- A closed fact of the program: mayEnter. -/
import Derived.Test.YtfbffncbdddemaaRows
namespace Go.Proofs.Ytfbffncbdddemaa
theorem pfA : Try.pinned.checked.prog.mayEnter = true := by kernel_rfl
end Go.Proofs.Ytfbffncbdddemaa
