/- A closed fact of the program: mayEnter. -/
import Derived.Test.YtdbnjoeanoiifaaRows
namespace Go.Proofs.Ytdbnjoeanoiifaa
theorem pfA : Try.pinned.checked.prog.mayEnter = true := by kernel_rfl
end Go.Proofs.Ytdbnjoeanoiifaa
