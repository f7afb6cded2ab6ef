/-
  No cell of these rows narrows 'for every input' (looked for: loops, veiled, ifaces, maps, wideKeys, modest, calm, conditions, laid).
  DERIVED. THE GIVEN ROWS OF THIS SEAT. 12 by the template 'for every input the law returns true; each argument reads behind the call as it read before'; 0 by the template 'total and deterministic' (their statements: YtofclfgaekjonaaTotals.lean).
  GIVEN WITH THE SEED: the statements are not yours to turn. If you find one false, say at which input.
  Laid BY PROGRAM, IN A SANDBOX (cutbox-rows.mjs): the forced cells as the released guide's own fill.sh prints them over the translation ecb053d7196e6500… (all of the seat's roots in one cut). By AI agents, Wed Nov 11 2026. No macro, syntax, notation, axiom, sorry.
-/
import Derived.Test.YtofclfgaekjonaaChecked
import GoSem.Claim
import GoSem.ClaimJoined
import GoSem.ClaimMapViews
import Derived.JoinedTies
import Derived.KernelRfl
namespace Go.Proofs.Ytofclfgaekjonaa
/- THE CELL 'sum', in the pinned program and in every row, IS THE sha256 OF THE DUMP (.gsa) THAT YtofclfgaekjonaaProg.lean LOADS. Nothing in Lean hashes anything: it is a label: what it is worth is what the hold of that sum in a sandbox is worth. -/
noncomputable def Try.pinned : Pinned := { name := "ytofclfgaekjonaa", sum := "ecb053d7196e6500af4edece926b5db9f0fb79adcaa70da9e58341594a111b3b", checked := Try.checked }
namespace Rows
def none {H : Type} : Left H := { results := [], args := [] }

/-- 'laws.FnExactLeastExp': WHATEVER THE INPUT: true; the input reads as it did. -/
def fnExactLeastExpSpec : ChangeSpec := { name := "fnExactLeastExp", fn := fun _ => fun
  | [d] => { results := [.lit (.bool true)], args := [d] }
  | _ => none }
def fnExactLeastExpRow : OpenClaim := { program := "ytofclfgaekjonaa", sum := "ecb053d7196e6500af4edece926b5db9f0fb79adcaa70da9e58341594a111b3b", func := "loop.example/g00864/laws.FnExactLeastExp", spec := "fnExactLeastExp", apart := false }
def FnExactLeastExpSaid : Prop := fnExactLeastExpRow.holds Try.pinned (OpenSpec.ofChange fnExactLeastExpSpec)

/-- ITS FALSE NEIGHBOUR: 'it returns false'. Refute it at one input. -/
def fnExactLeastExpWrong : ChangeSpec := { name := "fnExactLeastExp", fn := fun _ => fun
  | [d] => { results := [.lit (.bool false)], args := [d] }
  | _ => none }
def FnExactLeastExpWrongFalsely : Prop := fnExactLeastExpRow.holds Try.pinned (OpenSpec.ofChange fnExactLeastExpWrong)

/-- 'laws.FnExactSameOperator': WHATEVER THE INPUT: true; the input reads as it did. -/
def fnExactSameOperatorSpec : ChangeSpec := { name := "fnExactSameOperator", fn := fun _ => fun
  | [d1, d2] => { results := [.lit (.bool true)], args := [d1, d2] }
  | _ => none }
def fnExactSameOperatorRow : OpenClaim := { program := "ytofclfgaekjonaa", sum := "ecb053d7196e6500af4edece926b5db9f0fb79adcaa70da9e58341594a111b3b", func := "loop.example/g00864/laws.FnExactSameOperator", spec := "fnExactSameOperator", unfollowed := true, recurses := true, apart := false }
def FnExactSameOperatorSaid : Prop := fnExactSameOperatorRow.holds Try.pinned (OpenSpec.ofChange fnExactSameOperatorSpec)

/-- ITS FALSE NEIGHBOUR: 'it returns false'. Refute it at one input. -/
def fnExactSameOperatorWrong : ChangeSpec := { name := "fnExactSameOperator", fn := fun _ => fun
  | [d1, d2] => { results := [.lit (.bool false)], args := [d1, d2] }
  | _ => none }
def FnExactSameOperatorWrongFalsely : Prop := fnExactSameOperatorRow.holds Try.pinned (OpenSpec.ofChange fnExactSameOperatorWrong)

/-- 'laws.FnExactIsValidBloch': WHATEVER THE INPUT: true; the input reads as it did. -/
def fnExactIsValidBlochSpec : ChangeSpec := { name := "fnExactIsValidBloch", fn := fun _ => fun
  | [d] => { results := [.lit (.bool true)], args := [d] }
  | _ => none }
def fnExactIsValidBlochRow : OpenClaim := { program := "ytofclfgaekjonaa", sum := "ecb053d7196e6500af4edece926b5db9f0fb79adcaa70da9e58341594a111b3b", func := "loop.example/g00864/laws.FnExactIsValidBloch", spec := "fnExactIsValidBloch", apart := false }
def FnExactIsValidBlochSaid : Prop := fnExactIsValidBlochRow.holds Try.pinned (OpenSpec.ofChange fnExactIsValidBlochSpec)

/-- ITS FALSE NEIGHBOUR: 'it returns false'. Refute it at one input. -/
def fnExactIsValidBlochWrong : ChangeSpec := { name := "fnExactIsValidBloch", fn := fun _ => fun
  | [d] => { results := [.lit (.bool false)], args := [d] }
  | _ => none }
def FnExactIsValidBlochWrongFalsely : Prop := fnExactIsValidBlochRow.holds Try.pinned (OpenSpec.ofChange fnExactIsValidBlochWrong)

/-- 'laws.FnExactBlochExp': WHATEVER THE INPUT: true; the input reads as it did. -/
def fnExactBlochExpSpec : ChangeSpec := { name := "fnExactBlochExp", fn := fun _ => fun
  | [d] => { results := [.lit (.bool true)], args := [d] }
  | _ => none }
def fnExactBlochExpRow : OpenClaim := { program := "ytofclfgaekjonaa", sum := "ecb053d7196e6500af4edece926b5db9f0fb79adcaa70da9e58341594a111b3b", func := "loop.example/g00864/laws.FnExactBlochExp", spec := "fnExactBlochExp", apart := false }
def FnExactBlochExpSaid : Prop := fnExactBlochExpRow.holds Try.pinned (OpenSpec.ofChange fnExactBlochExpSpec)

/-- ITS FALSE NEIGHBOUR: 'it returns false'. Refute it at one input. -/
def fnExactBlochExpWrong : ChangeSpec := { name := "fnExactBlochExp", fn := fun _ => fun
  | [d] => { results := [.lit (.bool false)], args := [d] }
  | _ => none }
def FnExactBlochExpWrongFalsely : Prop := fnExactBlochExpRow.holds Try.pinned (OpenSpec.ofChange fnExactBlochExpWrong)

/-- 'laws.FnExactMulBloch': WHATEVER THE INPUT: true; the input reads as it did. -/
def fnExactMulBlochSpec : ChangeSpec := { name := "fnExactMulBloch", fn := fun _ => fun
  | [d1, d2] => { results := [.lit (.bool true)], args := [d1, d2] }
  | _ => none }
def fnExactMulBlochRow : OpenClaim := { program := "ytofclfgaekjonaa", sum := "ecb053d7196e6500af4edece926b5db9f0fb79adcaa70da9e58341594a111b3b", func := "loop.example/g00864/laws.FnExactMulBloch", spec := "fnExactMulBloch", apart := false }
def FnExactMulBlochSaid : Prop := fnExactMulBlochRow.holds Try.pinned (OpenSpec.ofChange fnExactMulBlochSpec)

/-- ITS FALSE NEIGHBOUR: 'it returns false'. Refute it at one input. -/
def fnExactMulBlochWrong : ChangeSpec := { name := "fnExactMulBloch", fn := fun _ => fun
  | [d1, d2] => { results := [.lit (.bool false)], args := [d1, d2] }
  | _ => none }
def FnExactMulBlochWrongFalsely : Prop := fnExactMulBlochRow.holds Try.pinned (OpenSpec.ofChange fnExactMulBlochWrong)

/-- 'laws.FnExactTransposeBloch': WHATEVER THE INPUT: true; the input reads as it did. -/
def fnExactTransposeBlochSpec : ChangeSpec := { name := "fnExactTransposeBloch", fn := fun _ => fun
  | [d] => { results := [.lit (.bool true)], args := [d] }
  | _ => none }
def fnExactTransposeBlochRow : OpenClaim := { program := "ytofclfgaekjonaa", sum := "ecb053d7196e6500af4edece926b5db9f0fb79adcaa70da9e58341594a111b3b", func := "loop.example/g00864/laws.FnExactTransposeBloch", spec := "fnExactTransposeBloch", apart := false }
def FnExactTransposeBlochSaid : Prop := fnExactTransposeBlochRow.holds Try.pinned (OpenSpec.ofChange fnExactTransposeBlochSpec)

/-- ITS FALSE NEIGHBOUR: 'it returns false'. Refute it at one input. -/
def fnExactTransposeBlochWrong : ChangeSpec := { name := "fnExactTransposeBloch", fn := fun _ => fun
  | [d] => { results := [.lit (.bool false)], args := [d] }
  | _ => none }
def FnExactTransposeBlochWrongFalsely : Prop := fnExactTransposeBlochRow.holds Try.pinned (OpenSpec.ofChange fnExactTransposeBlochWrong)

/-- 'laws.FnExactBlochOf': WHATEVER THE INPUT: true; the input reads as it did. -/
def fnExactBlochOfSpec : ChangeSpec := { name := "fnExactBlochOf", fn := fun _ => fun
  | [d] => { results := [.lit (.bool true)], args := [d] }
  | _ => none }
def fnExactBlochOfRow : OpenClaim := { program := "ytofclfgaekjonaa", sum := "ecb053d7196e6500af4edece926b5db9f0fb79adcaa70da9e58341594a111b3b", func := "loop.example/g00864/laws.FnExactBlochOf", spec := "fnExactBlochOf", apart := false }
def FnExactBlochOfSaid : Prop := fnExactBlochOfRow.holds Try.pinned (OpenSpec.ofChange fnExactBlochOfSpec)

/-- ITS FALSE NEIGHBOUR: 'it returns false'. Refute it at one input. -/
def fnExactBlochOfWrong : ChangeSpec := { name := "fnExactBlochOf", fn := fun _ => fun
  | [d] => { results := [.lit (.bool false)], args := [d] }
  | _ => none }
def FnExactBlochOfWrongFalsely : Prop := fnExactBlochOfRow.holds Try.pinned (OpenSpec.ofChange fnExactBlochOfWrong)

/-- 'laws.FnExactPauliMatrix': WHATEVER THE INPUT: true; the input reads as it did. -/
def fnExactPauliMatrixSpec : ChangeSpec := { name := "fnExactPauliMatrix", fn := fun _ => fun
  | [d1, d2] => { results := [.lit (.bool true)], args := [d1, d2] }
  | _ => none }
def fnExactPauliMatrixRow : OpenClaim := { program := "ytofclfgaekjonaa", sum := "ecb053d7196e6500af4edece926b5db9f0fb79adcaa70da9e58341594a111b3b", func := "loop.example/g00864/laws.FnExactPauliMatrix", spec := "fnExactPauliMatrix", apart := false }
def FnExactPauliMatrixSaid : Prop := fnExactPauliMatrixRow.holds Try.pinned (OpenSpec.ofChange fnExactPauliMatrixSpec)

/-- ITS FALSE NEIGHBOUR: 'it returns false'. Refute it at one input. -/
def fnExactPauliMatrixWrong : ChangeSpec := { name := "fnExactPauliMatrix", fn := fun _ => fun
  | [d1, d2] => { results := [.lit (.bool false)], args := [d1, d2] }
  | _ => none }
def FnExactPauliMatrixWrongFalsely : Prop := fnExactPauliMatrixRow.holds Try.pinned (OpenSpec.ofChange fnExactPauliMatrixWrong)

/-- 'laws.FnExactCountForms': WHATEVER THE INPUT: true; the input reads as it did. -/
def fnExactCountFormsSpec : ChangeSpec := { name := "fnExactCountForms", fn := fun _ => fun
  | [d] => { results := [.lit (.bool true)], args := [d] }
  | _ => none }
def fnExactCountFormsRow : OpenClaim := { program := "ytofclfgaekjonaa", sum := "ecb053d7196e6500af4edece926b5db9f0fb79adcaa70da9e58341594a111b3b", func := "loop.example/g00864/laws.FnExactCountForms", spec := "fnExactCountForms", apart := false }
def FnExactCountFormsSaid : Prop := fnExactCountFormsRow.holds Try.pinned (OpenSpec.ofChange fnExactCountFormsSpec)

/-- ITS FALSE NEIGHBOUR: 'it returns false'. Refute it at one input. -/
def fnExactCountFormsWrong : ChangeSpec := { name := "fnExactCountForms", fn := fun _ => fun
  | [d] => { results := [.lit (.bool false)], args := [d] }
  | _ => none }
def FnExactCountFormsWrongFalsely : Prop := fnExactCountFormsRow.holds Try.pinned (OpenSpec.ofChange fnExactCountFormsWrong)

/-- 'laws.FnExactFormAt': WHATEVER THE INPUT: true; the input reads as it did. -/
def fnExactFormAtSpec : ChangeSpec := { name := "fnExactFormAt", fn := fun _ => fun
  | [d1, d2] => { results := [.lit (.bool true)], args := [d1, d2] }
  | _ => none }
def fnExactFormAtRow : OpenClaim := { program := "ytofclfgaekjonaa", sum := "ecb053d7196e6500af4edece926b5db9f0fb79adcaa70da9e58341594a111b3b", func := "loop.example/g00864/laws.FnExactFormAt", spec := "fnExactFormAt", apart := false }
def FnExactFormAtSaid : Prop := fnExactFormAtRow.holds Try.pinned (OpenSpec.ofChange fnExactFormAtSpec)

/-- ITS FALSE NEIGHBOUR: 'it returns false'. Refute it at one input. -/
def fnExactFormAtWrong : ChangeSpec := { name := "fnExactFormAt", fn := fun _ => fun
  | [d1, d2] => { results := [.lit (.bool false)], args := [d1, d2] }
  | _ => none }
def FnExactFormAtWrongFalsely : Prop := fnExactFormAtRow.holds Try.pinned (OpenSpec.ofChange fnExactFormAtWrong)

/-- 'laws.FnExactIsValidForm': WHATEVER THE INPUT: true; the input reads as it did. -/
def fnExactIsValidFormSpec : ChangeSpec := { name := "fnExactIsValidForm", fn := fun _ => fun
  | [d] => { results := [.lit (.bool true)], args := [d] }
  | _ => none }
def fnExactIsValidFormRow : OpenClaim := { program := "ytofclfgaekjonaa", sum := "ecb053d7196e6500af4edece926b5db9f0fb79adcaa70da9e58341594a111b3b", func := "loop.example/g00864/laws.FnExactIsValidForm", spec := "fnExactIsValidForm", inPlace := ["internal/bytealg.IndexByteString", "internal/bytealg.IndexString"], named := ["internal/bytealg.MaxLen"], apart := false }
def FnExactIsValidFormSaid : Prop := fnExactIsValidFormRow.holds Try.pinned (OpenSpec.ofChange fnExactIsValidFormSpec)

/-- ITS FALSE NEIGHBOUR: 'it returns false'. Refute it at one input. -/
def fnExactIsValidFormWrong : ChangeSpec := { name := "fnExactIsValidForm", fn := fun _ => fun
  | [d] => { results := [.lit (.bool false)], args := [d] }
  | _ => none }
def FnExactIsValidFormWrongFalsely : Prop := fnExactIsValidFormRow.holds Try.pinned (OpenSpec.ofChange fnExactIsValidFormWrong)

/-- 'laws.FnExactLeastTCount': WHATEVER THE INPUT: true; the input reads as it did. -/
def fnExactLeastTCountSpec : ChangeSpec := { name := "fnExactLeastTCount", fn := fun _ => fun
  | [d] => { results := [.lit (.bool true)], args := [d] }
  | _ => none }
def fnExactLeastTCountRow : OpenClaim := { program := "ytofclfgaekjonaa", sum := "ecb053d7196e6500af4edece926b5db9f0fb79adcaa70da9e58341594a111b3b", func := "loop.example/g00864/laws.FnExactLeastTCount", spec := "fnExactLeastTCount", apart := false }
def FnExactLeastTCountSaid : Prop := fnExactLeastTCountRow.holds Try.pinned (OpenSpec.ofChange fnExactLeastTCountSpec)

/-- ITS FALSE NEIGHBOUR: 'it returns false'. Refute it at one input. -/
def fnExactLeastTCountWrong : ChangeSpec := { name := "fnExactLeastTCount", fn := fun _ => fun
  | [d] => { results := [.lit (.bool false)], args := [d] }
  | _ => none }
def FnExactLeastTCountWrongFalsely : Prop := fnExactLeastTCountRow.holds Try.pinned (OpenSpec.ofChange fnExactLeastTCountWrong)

/- THE SECOND FORM. 'bulk': how many values and letters a reading holds, each counted each time it is reached (what is shared counts as often as it is met; a slice's spare places count too). A statement '..UptoSaid' is the law's where the arguments, and the package variables that the reading takes, are together of bulk at most 1048576: NARROWER than '..Said'. Prove '..Said' where nothing that the law and all that it calls make is longer than what came in: it says more and counts as full. Else prove '..UptoSaid'. A law counts once. -/
mutual
def uptoBulk {H : Type} : DataW H → Nat
  | .lit (.string bytes) => bytes.length + 1
  | .lit _ => 1
  | .nil => 1
  | .ptr d => uptoBulk d + 1
  | .slice elems spare => uptoBulkAll elems + uptoBulkAll spare + 1
  | .agg parts => uptoBulkAll parts + 1
  | .iface _ d => uptoBulk d + 1
  | .map entries => uptoBulkEntries entries + 1
  | .held _ => 1
def uptoBulkAll {H : Type} : List (DataW H) → Nat
  | [] => 0
  | d :: r => uptoBulk d + uptoBulkAll r
def uptoBulkEntries {H : Type} : List (Lit × DataW H) → Nat
  | [] => 0
  | x :: r => uptoBulkEntry x + uptoBulkEntries r
def uptoBulkEntry {H : Type} : Lit × DataW H → Nat
  | (.string bytes, d) => bytes.length + uptoBulk d + 1
  | (_, d) => uptoBulk d + 1
 end
def uptoSmall : (H : Type) → List (DataW H) → Bool := fun _ ds => decide (uptoBulkAll ds ≤ 1048576)
def OpenSpec.upto (s : _root_.Go.ChangeSpec) : _root_.Go.OpenSpec := { _root_.Go.OpenSpec.ofChange s with cond := some uptoSmall }

/-- 'laws.FnExactLeastExp', WHERE WHAT IT READS IS OF BULK AT MOST 1048576: true; the input reads as it did. -/
def fnExactLeastExpUptoRow : OpenClaim := { program := "ytofclfgaekjonaa", sum := "ecb053d7196e6500af4edece926b5db9f0fb79adcaa70da9e58341594a111b3b", func := "loop.example/g00864/laws.FnExactLeastExp", spec := "fnExactLeastExp", apart := false, narrowed := true }
def FnExactLeastExpUptoSaid : Prop := fnExactLeastExpUptoRow.holds Try.pinned (OpenSpec.upto fnExactLeastExpSpec)

/-- 'laws.FnExactSameOperator', WHERE WHAT IT READS IS OF BULK AT MOST 1048576: true; the input reads as it did. -/
def fnExactSameOperatorUptoRow : OpenClaim := { program := "ytofclfgaekjonaa", sum := "ecb053d7196e6500af4edece926b5db9f0fb79adcaa70da9e58341594a111b3b", func := "loop.example/g00864/laws.FnExactSameOperator", spec := "fnExactSameOperator", unfollowed := true, recurses := true, apart := false, narrowed := true }
def FnExactSameOperatorUptoSaid : Prop := fnExactSameOperatorUptoRow.holds Try.pinned (OpenSpec.upto fnExactSameOperatorSpec)

/-- 'laws.FnExactIsValidBloch', WHERE WHAT IT READS IS OF BULK AT MOST 1048576: true; the input reads as it did. -/
def fnExactIsValidBlochUptoRow : OpenClaim := { program := "ytofclfgaekjonaa", sum := "ecb053d7196e6500af4edece926b5db9f0fb79adcaa70da9e58341594a111b3b", func := "loop.example/g00864/laws.FnExactIsValidBloch", spec := "fnExactIsValidBloch", apart := false, narrowed := true }
def FnExactIsValidBlochUptoSaid : Prop := fnExactIsValidBlochUptoRow.holds Try.pinned (OpenSpec.upto fnExactIsValidBlochSpec)

/-- 'laws.FnExactBlochExp', WHERE WHAT IT READS IS OF BULK AT MOST 1048576: true; the input reads as it did. -/
def fnExactBlochExpUptoRow : OpenClaim := { program := "ytofclfgaekjonaa", sum := "ecb053d7196e6500af4edece926b5db9f0fb79adcaa70da9e58341594a111b3b", func := "loop.example/g00864/laws.FnExactBlochExp", spec := "fnExactBlochExp", apart := false, narrowed := true }
def FnExactBlochExpUptoSaid : Prop := fnExactBlochExpUptoRow.holds Try.pinned (OpenSpec.upto fnExactBlochExpSpec)

/-- 'laws.FnExactMulBloch', WHERE WHAT IT READS IS OF BULK AT MOST 1048576: true; the input reads as it did. -/
def fnExactMulBlochUptoRow : OpenClaim := { program := "ytofclfgaekjonaa", sum := "ecb053d7196e6500af4edece926b5db9f0fb79adcaa70da9e58341594a111b3b", func := "loop.example/g00864/laws.FnExactMulBloch", spec := "fnExactMulBloch", apart := false, narrowed := true }
def FnExactMulBlochUptoSaid : Prop := fnExactMulBlochUptoRow.holds Try.pinned (OpenSpec.upto fnExactMulBlochSpec)

/-- 'laws.FnExactTransposeBloch', WHERE WHAT IT READS IS OF BULK AT MOST 1048576: true; the input reads as it did. -/
def fnExactTransposeBlochUptoRow : OpenClaim := { program := "ytofclfgaekjonaa", sum := "ecb053d7196e6500af4edece926b5db9f0fb79adcaa70da9e58341594a111b3b", func := "loop.example/g00864/laws.FnExactTransposeBloch", spec := "fnExactTransposeBloch", apart := false, narrowed := true }
def FnExactTransposeBlochUptoSaid : Prop := fnExactTransposeBlochUptoRow.holds Try.pinned (OpenSpec.upto fnExactTransposeBlochSpec)

/-- 'laws.FnExactBlochOf', WHERE WHAT IT READS IS OF BULK AT MOST 1048576: true; the input reads as it did. -/
def fnExactBlochOfUptoRow : OpenClaim := { program := "ytofclfgaekjonaa", sum := "ecb053d7196e6500af4edece926b5db9f0fb79adcaa70da9e58341594a111b3b", func := "loop.example/g00864/laws.FnExactBlochOf", spec := "fnExactBlochOf", apart := false, narrowed := true }
def FnExactBlochOfUptoSaid : Prop := fnExactBlochOfUptoRow.holds Try.pinned (OpenSpec.upto fnExactBlochOfSpec)

/-- 'laws.FnExactPauliMatrix', WHERE WHAT IT READS IS OF BULK AT MOST 1048576: true; the input reads as it did. -/
def fnExactPauliMatrixUptoRow : OpenClaim := { program := "ytofclfgaekjonaa", sum := "ecb053d7196e6500af4edece926b5db9f0fb79adcaa70da9e58341594a111b3b", func := "loop.example/g00864/laws.FnExactPauliMatrix", spec := "fnExactPauliMatrix", apart := false, narrowed := true }
def FnExactPauliMatrixUptoSaid : Prop := fnExactPauliMatrixUptoRow.holds Try.pinned (OpenSpec.upto fnExactPauliMatrixSpec)

/-- 'laws.FnExactCountForms', WHERE WHAT IT READS IS OF BULK AT MOST 1048576: true; the input reads as it did. -/
def fnExactCountFormsUptoRow : OpenClaim := { program := "ytofclfgaekjonaa", sum := "ecb053d7196e6500af4edece926b5db9f0fb79adcaa70da9e58341594a111b3b", func := "loop.example/g00864/laws.FnExactCountForms", spec := "fnExactCountForms", apart := false, narrowed := true }
def FnExactCountFormsUptoSaid : Prop := fnExactCountFormsUptoRow.holds Try.pinned (OpenSpec.upto fnExactCountFormsSpec)

/-- 'laws.FnExactFormAt', WHERE WHAT IT READS IS OF BULK AT MOST 1048576: true; the input reads as it did. -/
def fnExactFormAtUptoRow : OpenClaim := { program := "ytofclfgaekjonaa", sum := "ecb053d7196e6500af4edece926b5db9f0fb79adcaa70da9e58341594a111b3b", func := "loop.example/g00864/laws.FnExactFormAt", spec := "fnExactFormAt", apart := false, narrowed := true }
def FnExactFormAtUptoSaid : Prop := fnExactFormAtUptoRow.holds Try.pinned (OpenSpec.upto fnExactFormAtSpec)

/-- 'laws.FnExactIsValidForm', WHERE WHAT IT READS IS OF BULK AT MOST 1048576: true; the input reads as it did. -/
def fnExactIsValidFormUptoRow : OpenClaim := { program := "ytofclfgaekjonaa", sum := "ecb053d7196e6500af4edece926b5db9f0fb79adcaa70da9e58341594a111b3b", func := "loop.example/g00864/laws.FnExactIsValidForm", spec := "fnExactIsValidForm", inPlace := ["internal/bytealg.IndexByteString", "internal/bytealg.IndexString"], named := ["internal/bytealg.MaxLen"], apart := false, narrowed := true }
def FnExactIsValidFormUptoSaid : Prop := fnExactIsValidFormUptoRow.holds Try.pinned (OpenSpec.upto fnExactIsValidFormSpec)

/-- 'laws.FnExactLeastTCount', WHERE WHAT IT READS IS OF BULK AT MOST 1048576: true; the input reads as it did. -/
def fnExactLeastTCountUptoRow : OpenClaim := { program := "ytofclfgaekjonaa", sum := "ecb053d7196e6500af4edece926b5db9f0fb79adcaa70da9e58341594a111b3b", func := "loop.example/g00864/laws.FnExactLeastTCount", spec := "fnExactLeastTCount", apart := false, narrowed := true }
def FnExactLeastTCountUptoSaid : Prop := fnExactLeastTCountUptoRow.holds Try.pinned (OpenSpec.upto fnExactLeastTCountSpec)

end Rows
end Go.Proofs.Ytofclfgaekjonaa
