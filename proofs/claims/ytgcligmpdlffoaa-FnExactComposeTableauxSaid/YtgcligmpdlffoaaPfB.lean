/- A closed fact of the program: liftsFinal. -/
import Derived.Test.YtgcligmpdlffoaaRows
namespace Go.Proofs.Ytgcligmpdlffoaa
theorem pfB : Try.pinned.checked.prog.liftsFinal = false := by kernel_rfl
end Go.Proofs.Ytgcligmpdlffoaa
