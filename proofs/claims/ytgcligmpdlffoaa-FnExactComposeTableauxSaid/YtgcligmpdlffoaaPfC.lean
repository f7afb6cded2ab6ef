/- A closed fact of the program: make. -/
import Derived.Test.YtgcligmpdlffoaaRows
namespace Go.Proofs.Ytgcligmpdlffoaa
theorem pfC : Try.pinned.checked.prog.make = some .cut := by kernel_rfl
end Go.Proofs.Ytgcligmpdlffoaa
