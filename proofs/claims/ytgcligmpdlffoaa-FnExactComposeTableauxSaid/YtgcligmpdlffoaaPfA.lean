/- A closed fact of the program: mayEnter. -/
import Derived.Test.YtgcligmpdlffoaaRows
namespace Go.Proofs.Ytgcligmpdlffoaa
theorem pfA : Try.pinned.checked.prog.mayEnter = true := by kernel_rfl
end Go.Proofs.Ytgcligmpdlffoaa
