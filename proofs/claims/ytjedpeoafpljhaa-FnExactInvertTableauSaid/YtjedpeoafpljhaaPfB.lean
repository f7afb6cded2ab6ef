/- A closed fact of the program: liftsFinal. -/
import Derived.Test.YtjedpeoafpljhaaRows
namespace Go.Proofs.Ytjedpeoafpljhaa
theorem pfB : Try.pinned.checked.prog.liftsFinal = false := by kernel_rfl
end Go.Proofs.Ytjedpeoafpljhaa
