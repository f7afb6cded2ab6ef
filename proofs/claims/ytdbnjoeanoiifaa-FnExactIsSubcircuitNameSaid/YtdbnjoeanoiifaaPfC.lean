/- A closed fact of the program: make. -/
import Derived.Test.YtdbnjoeanoiifaaRows
namespace Go.Proofs.Ytdbnjoeanoiifaa
theorem pfC : Try.pinned.checked.prog.make = some .cut := by kernel_rfl
end Go.Proofs.Ytdbnjoeanoiifaa
