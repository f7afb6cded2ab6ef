/- A closed fact of the program: liftsFinal. -/
import Derived.Test.YtdbnjoeanoiifaaRows
namespace Go.Proofs.Ytdbnjoeanoiifaa
theorem pfB : Try.pinned.checked.prog.liftsFinal = false := by kernel_rfl
end Go.Proofs.Ytdbnjoeanoiifaa
