/- A closed fact of the program: make. -/
import Derived.Test.YtfbffncbdddemaaRows
namespace Go.Proofs.Ytfbffncbdddemaa
theorem pfC : Try.pinned.checked.prog.make = some .cut := by kernel_rfl
end Go.Proofs.Ytfbffncbdddemaa
