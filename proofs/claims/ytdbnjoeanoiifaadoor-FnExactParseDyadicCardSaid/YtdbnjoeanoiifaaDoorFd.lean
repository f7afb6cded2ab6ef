/- The contract of the model's FormatDyadic and of the program's. -/
import Derived.Test.YtdbnjoeanoiifaaDoorFm
import Derived.Test.YtdbnjoeanoiifaaDoorSf
import Derived.Test.YtdbnjoeanoiifaaDoorDyV
namespace Go.Proofs.YtdbnjoeanoiifaaDoor
open Go.RowKit RM
set_option linter.unusedVariables false
set_option linter.unusedSimpArgs false
attribute [local irreducible] World.setCell

def fdx (a b c d : Int) (e : Nat) : ByteArray := ftx a b c d ++ ⟨#[47]⟩ ++ itx (e : Int)
theorem itx_nat (k : Nat) : itx (k : Int) = ⟨(Lib.decDigits k).toArray⟩ := by
  unfold itx Lib.itoa
  rw [if_neg (by omega)]
  have : ((k : Int)).toNat = k := by omega
  rw [this]
theorem ftx_len (a b c d : Int) (h : vr a b c d = true) : (ftx a b c d).size ≤ 83 := by
  obtain ⟨xa, xb, xc, xd⟩ := vr_iff.1 h
  have la := itx_len a xa
  have lb := itx_len b xb
  have lc := itx_len c xc
  have ld := itx_len d xd
  unfold ftx
  simp only [ByteArray.size_append, show (⟨#[32]⟩ : ByteArray).size = 1 from rfl]
  omega

end Go.Proofs.YtdbnjoeanoiifaaDoor
