/- A closed fact of the program: mayEnter. -/
import Derived.Test.YtjedpeoafpljhaaRows
namespace Go.Proofs.Ytjedpeoafpljhaa
theorem pfA : Try.pinned.checked.prog.mayEnter = true := by kernel_rfl
end Go.Proofs.Ytjedpeoafpljhaa
