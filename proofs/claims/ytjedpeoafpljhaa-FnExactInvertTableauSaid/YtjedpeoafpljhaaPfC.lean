/- A closed fact of the program: make. -/
import Derived.Test.YtjedpeoafpljhaaRows
namespace Go.Proofs.Ytjedpeoafpljhaa
theorem pfC : Try.pinned.checked.prog.make = some .cut := by kernel_rfl
end Go.Proofs.Ytjedpeoafpljhaa
