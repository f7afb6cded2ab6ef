/-
  No cell of these rows narrows 'for every input' (looked for: loops, veiled, ifaces, maps, wideKeys, modest, calm, conditions, laid).
  DERIVED. THE GIVEN ROWS OF THIS SEAT. 15 by the template 'for every input the law returns true; each argument reads behind the call as it read before'; 0 by the template 'total and deterministic' (their statements: YtncgccpkbneagaaTotals.lean).
  GIVEN WITH THE SEED: the statements are not yours to turn. If you find one false, say at which input.
  Laid BY PROGRAM, IN A SANDBOX (cutbox-rows.mjs): the forced cells as the released guide's own fill.sh prints them over the translation b109590e0d3270fa… (all of the seat's roots in one cut). By AI agents, Wed Nov 11 2026. No macro, syntax, notation, axiom, sorry.
-/
import Derived.Test.YtncgccpkbneagaaChecked
import GoSem.Claim
import GoSem.ClaimJoined
import GoSem.ClaimMapViews
import Derived.JoinedTies
import Derived.KernelRfl
namespace Go.Proofs.Ytncgccpkbneagaa
/- THE CELL 'sum', in the pinned program and in every row, IS THE sha256 OF THE DUMP (.gsa) THAT YtncgccpkbneagaaProg.lean LOADS. Nothing in Lean hashes anything: it is a label: what it is worth is what the hold of that sum in a sandbox is worth. -/
noncomputable def Try.pinned : Pinned := { name := "ytncgccpkbneagaa", sum := "b109590e0d3270fa941f350c42e33a2541a9dacb43505eaf93d61fcf7226b23c", checked := Try.checked }
namespace Rows
def none {H : Type} : Left H := { results := [], args := [] }

/-- 'laws.FnMatrices': WHATEVER THE INPUT: true; the input reads as it did. -/
def fnMatricesSpec : ChangeSpec := { name := "fnMatrices", fn := fun _ => fun
  | [d1, d2] => { results := [.lit (.bool true)], args := [d1, d2] }
  | _ => none }
def fnMatricesRow : OpenClaim := { program := "ytncgccpkbneagaa", sum := "b109590e0d3270fa941f350c42e33a2541a9dacb43505eaf93d61fcf7226b23c", func := "loop.example/g00864/laws.FnMatrices", spec := "fnMatrices", apart := false }
def FnMatricesSaid : Prop := fnMatricesRow.holds Try.pinned (OpenSpec.ofChange fnMatricesSpec)

/-- ITS FALSE NEIGHBOUR: 'it returns false'. Refute it at one input. -/
def fnMatricesWrong : ChangeSpec := { name := "fnMatrices", fn := fun _ => fun
  | [d1, d2] => { results := [.lit (.bool false)], args := [d1, d2] }
  | _ => none }
def FnMatricesWrongFalsely : Prop := fnMatricesRow.holds Try.pinned (OpenSpec.ofChange fnMatricesWrong)

/-- 'laws.FnExactMulMatrix': WHATEVER THE INPUT: true; the input reads as it did. -/
def fnExactMulMatrixSpec : ChangeSpec := { name := "fnExactMulMatrix", fn := fun _ => fun
  | [d1, d2] => { results := [.lit (.bool true)], args := [d1, d2] }
  | _ => none }
def fnExactMulMatrixRow : OpenClaim := { program := "ytncgccpkbneagaa", sum := "b109590e0d3270fa941f350c42e33a2541a9dacb43505eaf93d61fcf7226b23c", func := "loop.example/g00864/laws.FnExactMulMatrix", spec := "fnExactMulMatrix", apart := false }
def FnExactMulMatrixSaid : Prop := fnExactMulMatrixRow.holds Try.pinned (OpenSpec.ofChange fnExactMulMatrixSpec)

/-- ITS FALSE NEIGHBOUR: 'it returns false'. Refute it at one input. -/
def fnExactMulMatrixWrong : ChangeSpec := { name := "fnExactMulMatrix", fn := fun _ => fun
  | [d1, d2] => { results := [.lit (.bool false)], args := [d1, d2] }
  | _ => none }
def FnExactMulMatrixWrongFalsely : Prop := fnExactMulMatrixRow.holds Try.pinned (OpenSpec.ofChange fnExactMulMatrixWrong)

/-- 'laws.FnExactAddMatrix': WHATEVER THE INPUT: true; the input reads as it did. -/
def fnExactAddMatrixSpec : ChangeSpec := { name := "fnExactAddMatrix", fn := fun _ => fun
  | [d1, d2] => { results := [.lit (.bool true)], args := [d1, d2] }
  | _ => none }
def fnExactAddMatrixRow : OpenClaim := { program := "ytncgccpkbneagaa", sum := "b109590e0d3270fa941f350c42e33a2541a9dacb43505eaf93d61fcf7226b23c", func := "loop.example/g00864/laws.FnExactAddMatrix", spec := "fnExactAddMatrix", apart := false }
def FnExactAddMatrixSaid : Prop := fnExactAddMatrixRow.holds Try.pinned (OpenSpec.ofChange fnExactAddMatrixSpec)

/-- ITS FALSE NEIGHBOUR: 'it returns false'. Refute it at one input. -/
def fnExactAddMatrixWrong : ChangeSpec := { name := "fnExactAddMatrix", fn := fun _ => fun
  | [d1, d2] => { results := [.lit (.bool false)], args := [d1, d2] }
  | _ => none }
def FnExactAddMatrixWrongFalsely : Prop := fnExactAddMatrixRow.holds Try.pinned (OpenSpec.ofChange fnExactAddMatrixWrong)

/-- 'laws.FnExactScaleMatrix': WHATEVER THE INPUT: true; the input reads as it did. -/
def fnExactScaleMatrixSpec : ChangeSpec := { name := "fnExactScaleMatrix", fn := fun _ => fun
  | [d1, d2] => { results := [.lit (.bool true)], args := [d1, d2] }
  | _ => none }
def fnExactScaleMatrixRow : OpenClaim := { program := "ytncgccpkbneagaa", sum := "b109590e0d3270fa941f350c42e33a2541a9dacb43505eaf93d61fcf7226b23c", func := "loop.example/g00864/laws.FnExactScaleMatrix", spec := "fnExactScaleMatrix", apart := false }
def FnExactScaleMatrixSaid : Prop := fnExactScaleMatrixRow.holds Try.pinned (OpenSpec.ofChange fnExactScaleMatrixSpec)

/-- ITS FALSE NEIGHBOUR: 'it returns false'. Refute it at one input. -/
def fnExactScaleMatrixWrong : ChangeSpec := { name := "fnExactScaleMatrix", fn := fun _ => fun
  | [d1, d2] => { results := [.lit (.bool false)], args := [d1, d2] }
  | _ => none }
def FnExactScaleMatrixWrongFalsely : Prop := fnExactScaleMatrixRow.holds Try.pinned (OpenSpec.ofChange fnExactScaleMatrixWrong)

/-- 'laws.FnExactKron': WHATEVER THE INPUT: true; the input reads as it did. -/
def fnExactKronSpec : ChangeSpec := { name := "fnExactKron", fn := fun _ => fun
  | [d1, d2] => { results := [.lit (.bool true)], args := [d1, d2] }
  | _ => none }
def fnExactKronRow : OpenClaim := { program := "ytncgccpkbneagaa", sum := "b109590e0d3270fa941f350c42e33a2541a9dacb43505eaf93d61fcf7226b23c", func := "loop.example/g00864/laws.FnExactKron", spec := "fnExactKron", apart := false }
def FnExactKronSaid : Prop := fnExactKronRow.holds Try.pinned (OpenSpec.ofChange fnExactKronSpec)

/-- ITS FALSE NEIGHBOUR: 'it returns false'. Refute it at one input. -/
def fnExactKronWrong : ChangeSpec := { name := "fnExactKron", fn := fun _ => fun
  | [d1, d2] => { results := [.lit (.bool false)], args := [d1, d2] }
  | _ => none }
def FnExactKronWrongFalsely : Prop := fnExactKronRow.holds Try.pinned (OpenSpec.ofChange fnExactKronWrong)

/-- 'laws.FnExactIsUnitary': WHATEVER THE INPUT: true; the input reads as it did. -/
def fnExactIsUnitarySpec : ChangeSpec := { name := "fnExactIsUnitary", fn := fun _ => fun
  | [d] => { results := [.lit (.bool true)], args := [d] }
  | _ => none }
def fnExactIsUnitaryRow : OpenClaim := { program := "ytncgccpkbneagaa", sum := "b109590e0d3270fa941f350c42e33a2541a9dacb43505eaf93d61fcf7226b23c", func := "loop.example/g00864/laws.FnExactIsUnitary", spec := "fnExactIsUnitary", apart := false }
def FnExactIsUnitarySaid : Prop := fnExactIsUnitaryRow.holds Try.pinned (OpenSpec.ofChange fnExactIsUnitarySpec)

/-- ITS FALSE NEIGHBOUR: 'it returns false'. Refute it at one input. -/
def fnExactIsUnitaryWrong : ChangeSpec := { name := "fnExactIsUnitary", fn := fun _ => fun
  | [d] => { results := [.lit (.bool false)], args := [d] }
  | _ => none }
def FnExactIsUnitaryWrongFalsely : Prop := fnExactIsUnitaryRow.holds Try.pinned (OpenSpec.ofChange fnExactIsUnitaryWrong)

/-- 'laws.FnExactGateMatrix': WHATEVER THE INPUT: true; the input reads as it did. -/
def fnExactGateMatrixSpec : ChangeSpec := { name := "fnExactGateMatrix", fn := fun _ => fun
  | [d1, d2] => { results := [.lit (.bool true)], args := [d1, d2] }
  | _ => none }
def fnExactGateMatrixRow : OpenClaim := { program := "ytncgccpkbneagaa", sum := "b109590e0d3270fa941f350c42e33a2541a9dacb43505eaf93d61fcf7226b23c", func := "loop.example/g00864/laws.FnExactGateMatrix", spec := "fnExactGateMatrix", unfollowed := true, recurses := true, apart := false }
def FnExactGateMatrixSaid : Prop := fnExactGateMatrixRow.holds Try.pinned (OpenSpec.ofChange fnExactGateMatrixSpec)

/-- ITS FALSE NEIGHBOUR: 'it returns false'. Refute it at one input. -/
def fnExactGateMatrixWrong : ChangeSpec := { name := "fnExactGateMatrix", fn := fun _ => fun
  | [d1, d2] => { results := [.lit (.bool false)], args := [d1, d2] }
  | _ => none }
def FnExactGateMatrixWrongFalsely : Prop := fnExactGateMatrixRow.holds Try.pinned (OpenSpec.ofChange fnExactGateMatrixWrong)

/-- 'laws.FnExactOperatorOf': WHATEVER THE INPUT: true; the input reads as it did. -/
def fnExactOperatorOfSpec : ChangeSpec := { name := "fnExactOperatorOf", fn := fun _ => fun
  | [d] => { results := [.lit (.bool true)], args := [d] }
  | _ => none }
def fnExactOperatorOfRow : OpenClaim := { program := "ytncgccpkbneagaa", sum := "b109590e0d3270fa941f350c42e33a2541a9dacb43505eaf93d61fcf7226b23c", func := "loop.example/g00864/laws.FnExactOperatorOf", spec := "fnExactOperatorOf", unfollowed := true, recurses := true, apart := false }
def FnExactOperatorOfSaid : Prop := fnExactOperatorOfRow.holds Try.pinned (OpenSpec.ofChange fnExactOperatorOfSpec)

/-- ITS FALSE NEIGHBOUR: 'it returns false'. Refute it at one input. -/
def fnExactOperatorOfWrong : ChangeSpec := { name := "fnExactOperatorOf", fn := fun _ => fun
  | [d] => { results := [.lit (.bool false)], args := [d] }
  | _ => none }
def FnExactOperatorOfWrongFalsely : Prop := fnExactOperatorOfRow.holds Try.pinned (OpenSpec.ofChange fnExactOperatorOfWrong)

/-- 'laws.FnExactStateAfter': WHATEVER THE INPUT: true; the input reads as it did. -/
def fnExactStateAfterSpec : ChangeSpec := { name := "fnExactStateAfter", fn := fun _ => fun
  | [d1, d2] => { results := [.lit (.bool true)], args := [d1, d2] }
  | _ => none }
def fnExactStateAfterRow : OpenClaim := { program := "ytncgccpkbneagaa", sum := "b109590e0d3270fa941f350c42e33a2541a9dacb43505eaf93d61fcf7226b23c", func := "loop.example/g00864/laws.FnExactStateAfter", spec := "fnExactStateAfter", unfollowed := true, recurses := true, apart := false }
def FnExactStateAfterSaid : Prop := fnExactStateAfterRow.holds Try.pinned (OpenSpec.ofChange fnExactStateAfterSpec)

/-- ITS FALSE NEIGHBOUR: 'it returns false'. Refute it at one input. -/
def fnExactStateAfterWrong : ChangeSpec := { name := "fnExactStateAfter", fn := fun _ => fun
  | [d1, d2] => { results := [.lit (.bool false)], args := [d1, d2] }
  | _ => none }
def FnExactStateAfterWrongFalsely : Prop := fnExactStateAfterRow.holds Try.pinned (OpenSpec.ofChange fnExactStateAfterWrong)

/-- 'laws.FnExactEqualUpToPhase': WHATEVER THE INPUT: true; the input reads as it did. -/
def fnExactEqualUpToPhaseSpec : ChangeSpec := { name := "fnExactEqualUpToPhase", fn := fun _ => fun
  | [d1, d2] => { results := [.lit (.bool true)], args := [d1, d2] }
  | _ => none }
def fnExactEqualUpToPhaseRow : OpenClaim := { program := "ytncgccpkbneagaa", sum := "b109590e0d3270fa941f350c42e33a2541a9dacb43505eaf93d61fcf7226b23c", func := "loop.example/g00864/laws.FnExactEqualUpToPhase", spec := "fnExactEqualUpToPhase", unfollowed := true, recurses := true, apart := false }
def FnExactEqualUpToPhaseSaid : Prop := fnExactEqualUpToPhaseRow.holds Try.pinned (OpenSpec.ofChange fnExactEqualUpToPhaseSpec)

/-- ITS FALSE NEIGHBOUR: 'it returns false'. Refute it at one input. -/
def fnExactEqualUpToPhaseWrong : ChangeSpec := { name := "fnExactEqualUpToPhase", fn := fun _ => fun
  | [d1, d2] => { results := [.lit (.bool false)], args := [d1, d2] }
  | _ => none }
def FnExactEqualUpToPhaseWrongFalsely : Prop := fnExactEqualUpToPhaseRow.holds Try.pinned (OpenSpec.ofChange fnExactEqualUpToPhaseWrong)

/-- 'laws.FnExactSameOperator': WHATEVER THE INPUT: true; the input reads as it did. -/
def fnExactSameOperatorSpec : ChangeSpec := { name := "fnExactSameOperator", fn := fun _ => fun
  | [d1, d2] => { results := [.lit (.bool true)], args := [d1, d2] }
  | _ => none }
def fnExactSameOperatorRow : OpenClaim := { program := "ytncgccpkbneagaa", sum := "b109590e0d3270fa941f350c42e33a2541a9dacb43505eaf93d61fcf7226b23c", func := "loop.example/g00864/laws.FnExactSameOperator", spec := "fnExactSameOperator", unfollowed := true, recurses := true, apart := false }
def FnExactSameOperatorSaid : Prop := fnExactSameOperatorRow.holds Try.pinned (OpenSpec.ofChange fnExactSameOperatorSpec)

/-- ITS FALSE NEIGHBOUR: 'it returns false'. Refute it at one input. -/
def fnExactSameOperatorWrong : ChangeSpec := { name := "fnExactSameOperator", fn := fun _ => fun
  | [d1, d2] => { results := [.lit (.bool false)], args := [d1, d2] }
  | _ => none }
def FnExactSameOperatorWrongFalsely : Prop := fnExactSameOperatorRow.holds Try.pinned (OpenSpec.ofChange fnExactSameOperatorWrong)

/-- 'laws.FnExactIsPhase': WHATEVER THE INPUT: true; the input reads as it did. -/
def fnExactIsPhaseSpec : ChangeSpec := { name := "fnExactIsPhase", fn := fun _ => fun
  | [d] => { results := [.lit (.bool true)], args := [d] }
  | _ => none }
def fnExactIsPhaseRow : OpenClaim := { program := "ytncgccpkbneagaa", sum := "b109590e0d3270fa941f350c42e33a2541a9dacb43505eaf93d61fcf7226b23c", func := "loop.example/g00864/laws.FnExactIsPhase", spec := "fnExactIsPhase", unfollowed := true, recurses := true, apart := false }
def FnExactIsPhaseSaid : Prop := fnExactIsPhaseRow.holds Try.pinned (OpenSpec.ofChange fnExactIsPhaseSpec)

/-- ITS FALSE NEIGHBOUR: 'it returns false'. Refute it at one input. -/
def fnExactIsPhaseWrong : ChangeSpec := { name := "fnExactIsPhase", fn := fun _ => fun
  | [d] => { results := [.lit (.bool false)], args := [d] }
  | _ => none }
def FnExactIsPhaseWrongFalsely : Prop := fnExactIsPhaseRow.holds Try.pinned (OpenSpec.ofChange fnExactIsPhaseWrong)

/-- 'laws.FnExactOutcomeWeight': WHATEVER THE INPUT: true; the input reads as it did. -/
def fnExactOutcomeWeightSpec : ChangeSpec := { name := "fnExactOutcomeWeight", fn := fun _ => fun
  | [d1, d2, d3] => { results := [.lit (.bool true)], args := [d1, d2, d3] }
  | _ => none }
def fnExactOutcomeWeightRow : OpenClaim := { program := "ytncgccpkbneagaa", sum := "b109590e0d3270fa941f350c42e33a2541a9dacb43505eaf93d61fcf7226b23c", func := "loop.example/g00864/laws.FnExactOutcomeWeight", spec := "fnExactOutcomeWeight", unfollowed := true, recurses := true, apart := false }
def FnExactOutcomeWeightSaid : Prop := fnExactOutcomeWeightRow.holds Try.pinned (OpenSpec.ofChange fnExactOutcomeWeightSpec)

/-- ITS FALSE NEIGHBOUR: 'it returns false'. Refute it at one input. -/
def fnExactOutcomeWeightWrong : ChangeSpec := { name := "fnExactOutcomeWeight", fn := fun _ => fun
  | [d1, d2, d3] => { results := [.lit (.bool false)], args := [d1, d2, d3] }
  | _ => none }
def FnExactOutcomeWeightWrongFalsely : Prop := fnExactOutcomeWeightRow.holds Try.pinned (OpenSpec.ofChange fnExactOutcomeWeightWrong)

/-- 'laws.FnExactQubitWeight': WHATEVER THE INPUT: true; the input reads as it did. -/
def fnExactQubitWeightSpec : ChangeSpec := { name := "fnExactQubitWeight", fn := fun _ => fun
  | [d1, d2, d3] => { results := [.lit (.bool true)], args := [d1, d2, d3] }
  | _ => none }
def fnExactQubitWeightRow : OpenClaim := { program := "ytncgccpkbneagaa", sum := "b109590e0d3270fa941f350c42e33a2541a9dacb43505eaf93d61fcf7226b23c", func := "loop.example/g00864/laws.FnExactQubitWeight", spec := "fnExactQubitWeight", unfollowed := true, recurses := true, apart := false }
def FnExactQubitWeightSaid : Prop := fnExactQubitWeightRow.holds Try.pinned (OpenSpec.ofChange fnExactQubitWeightSpec)

/-- ITS FALSE NEIGHBOUR: 'it returns false'. Refute it at one input. -/
def fnExactQubitWeightWrong : ChangeSpec := { name := "fnExactQubitWeight", fn := fun _ => fun
  | [d1, d2, d3] => { results := [.lit (.bool false)], args := [d1, d2, d3] }
  | _ => none }
def FnExactQubitWeightWrongFalsely : Prop := fnExactQubitWeightRow.holds Try.pinned (OpenSpec.ofChange fnExactQubitWeightWrong)

/-- 'laws.FnExactControlledOf': WHATEVER THE INPUT: true; the input reads as it did. -/
def fnExactControlledOfSpec : ChangeSpec := { name := "fnExactControlledOf", fn := fun _ => fun
  | [d] => { results := [.lit (.bool true)], args := [d] }
  | _ => none }
def fnExactControlledOfRow : OpenClaim := { program := "ytncgccpkbneagaa", sum := "b109590e0d3270fa941f350c42e33a2541a9dacb43505eaf93d61fcf7226b23c", func := "loop.example/g00864/laws.FnExactControlledOf", spec := "fnExactControlledOf", apart := false }
def FnExactControlledOfSaid : Prop := fnExactControlledOfRow.holds Try.pinned (OpenSpec.ofChange fnExactControlledOfSpec)

/-- ITS FALSE NEIGHBOUR: 'it returns false'. Refute it at one input. -/
def fnExactControlledOfWrong : ChangeSpec := { name := "fnExactControlledOf", fn := fun _ => fun
  | [d] => { results := [.lit (.bool false)], args := [d] }
  | _ => none }
def FnExactControlledOfWrongFalsely : Prop := fnExactControlledOfRow.holds Try.pinned (OpenSpec.ofChange fnExactControlledOfWrong)

/- THE SECOND FORM. 'bulk': how many values and letters a reading holds, each counted each time it is reached (what is shared counts as often as it is met; a slice's spare places count too). A statement '..UptoSaid' is the law's where the arguments, and the package variables that the reading takes, are together of bulk at most 1048576: NARROWER than '..Said'. Prove '..Said' where nothing that the law and all that it calls make is longer than what came in: it says more and counts as full. Else prove '..UptoSaid'. A law counts once. -/
mutual
def uptoBulk {H : Type} : DataW H → Nat
  | .lit (.string bytes) => bytes.length + 1
  | .lit _ => 1
  | .nil => 1
  | .ptr d => uptoBulk d + 1
  | .slice elems spare => uptoBulkAll elems + uptoBulkAll spare + 1
  | .agg parts => uptoBulkAll parts + 1
  | .iface _ d => uptoBulk d + 1
  | .map entries => uptoBulkEntries entries + 1
  | .held _ => 1
def uptoBulkAll {H : Type} : List (DataW H) → Nat
  | [] => 0
  | d :: r => uptoBulk d + uptoBulkAll r
def uptoBulkEntries {H : Type} : List (Lit × DataW H) → Nat
  | [] => 0
  | x :: r => uptoBulkEntry x + uptoBulkEntries r
def uptoBulkEntry {H : Type} : Lit × DataW H → Nat
  | (.string bytes, d) => bytes.length + uptoBulk d + 1
  | (_, d) => uptoBulk d + 1
 end
def uptoSmall : (H : Type) → List (DataW H) → Bool := fun _ ds => decide (uptoBulkAll ds ≤ 1048576)
def OpenSpec.upto (s : _root_.Go.ChangeSpec) : _root_.Go.OpenSpec := { _root_.Go.OpenSpec.ofChange s with cond := some uptoSmall }

/-- 'laws.FnMatrices', WHERE WHAT IT READS IS OF BULK AT MOST 1048576: true; the input reads as it did. -/
def fnMatricesUptoRow : OpenClaim := { program := "ytncgccpkbneagaa", sum := "b109590e0d3270fa941f350c42e33a2541a9dacb43505eaf93d61fcf7226b23c", func := "loop.example/g00864/laws.FnMatrices", spec := "fnMatrices", apart := false, narrowed := true }
def FnMatricesUptoSaid : Prop := fnMatricesUptoRow.holds Try.pinned (OpenSpec.upto fnMatricesSpec)

/-- 'laws.FnExactMulMatrix', WHERE WHAT IT READS IS OF BULK AT MOST 1048576: true; the input reads as it did. -/
def fnExactMulMatrixUptoRow : OpenClaim := { program := "ytncgccpkbneagaa", sum := "b109590e0d3270fa941f350c42e33a2541a9dacb43505eaf93d61fcf7226b23c", func := "loop.example/g00864/laws.FnExactMulMatrix", spec := "fnExactMulMatrix", apart := false, narrowed := true }
def FnExactMulMatrixUptoSaid : Prop := fnExactMulMatrixUptoRow.holds Try.pinned (OpenSpec.upto fnExactMulMatrixSpec)

/-- 'laws.FnExactAddMatrix', WHERE WHAT IT READS IS OF BULK AT MOST 1048576: true; the input reads as it did. -/
def fnExactAddMatrixUptoRow : OpenClaim := { program := "ytncgccpkbneagaa", sum := "b109590e0d3270fa941f350c42e33a2541a9dacb43505eaf93d61fcf7226b23c", func := "loop.example/g00864/laws.FnExactAddMatrix", spec := "fnExactAddMatrix", apart := false, narrowed := true }
def FnExactAddMatrixUptoSaid : Prop := fnExactAddMatrixUptoRow.holds Try.pinned (OpenSpec.upto fnExactAddMatrixSpec)

/-- 'laws.FnExactScaleMatrix', WHERE WHAT IT READS IS OF BULK AT MOST 1048576: true; the input reads as it did. -/
def fnExactScaleMatrixUptoRow : OpenClaim := { program := "ytncgccpkbneagaa", sum := "b109590e0d3270fa941f350c42e33a2541a9dacb43505eaf93d61fcf7226b23c", func := "loop.example/g00864/laws.FnExactScaleMatrix", spec := "fnExactScaleMatrix", apart := false, narrowed := true }
def FnExactScaleMatrixUptoSaid : Prop := fnExactScaleMatrixUptoRow.holds Try.pinned (OpenSpec.upto fnExactScaleMatrixSpec)

/-- 'laws.FnExactKron', WHERE WHAT IT READS IS OF BULK AT MOST 1048576: true; the input reads as it did. -/
def fnExactKronUptoRow : OpenClaim := { program := "ytncgccpkbneagaa", sum := "b109590e0d3270fa941f350c42e33a2541a9dacb43505eaf93d61fcf7226b23c", func := "loop.example/g00864/laws.FnExactKron", spec := "fnExactKron", apart := false, narrowed := true }
def FnExactKronUptoSaid : Prop := fnExactKronUptoRow.holds Try.pinned (OpenSpec.upto fnExactKronSpec)

/-- 'laws.FnExactIsUnitary', WHERE WHAT IT READS IS OF BULK AT MOST 1048576: true; the input reads as it did. -/
def fnExactIsUnitaryUptoRow : OpenClaim := { program := "ytncgccpkbneagaa", sum := "b109590e0d3270fa941f350c42e33a2541a9dacb43505eaf93d61fcf7226b23c", func := "loop.example/g00864/laws.FnExactIsUnitary", spec := "fnExactIsUnitary", apart := false, narrowed := true }
def FnExactIsUnitaryUptoSaid : Prop := fnExactIsUnitaryUptoRow.holds Try.pinned (OpenSpec.upto fnExactIsUnitarySpec)

/-- 'laws.FnExactGateMatrix', WHERE WHAT IT READS IS OF BULK AT MOST 1048576: true; the input reads as it did. -/
def fnExactGateMatrixUptoRow : OpenClaim := { program := "ytncgccpkbneagaa", sum := "b109590e0d3270fa941f350c42e33a2541a9dacb43505eaf93d61fcf7226b23c", func := "loop.example/g00864/laws.FnExactGateMatrix", spec := "fnExactGateMatrix", unfollowed := true, recurses := true, apart := false, narrowed := true }
def FnExactGateMatrixUptoSaid : Prop := fnExactGateMatrixUptoRow.holds Try.pinned (OpenSpec.upto fnExactGateMatrixSpec)

/-- 'laws.FnExactOperatorOf', WHERE WHAT IT READS IS OF BULK AT MOST 1048576: true; the input reads as it did. -/
def fnExactOperatorOfUptoRow : OpenClaim := { program := "ytncgccpkbneagaa", sum := "b109590e0d3270fa941f350c42e33a2541a9dacb43505eaf93d61fcf7226b23c", func := "loop.example/g00864/laws.FnExactOperatorOf", spec := "fnExactOperatorOf", unfollowed := true, recurses := true, apart := false, narrowed := true }
def FnExactOperatorOfUptoSaid : Prop := fnExactOperatorOfUptoRow.holds Try.pinned (OpenSpec.upto fnExactOperatorOfSpec)

/-- 'laws.FnExactStateAfter', WHERE WHAT IT READS IS OF BULK AT MOST 1048576: true; the input reads as it did. -/
def fnExactStateAfterUptoRow : OpenClaim := { program := "ytncgccpkbneagaa", sum := "b109590e0d3270fa941f350c42e33a2541a9dacb43505eaf93d61fcf7226b23c", func := "loop.example/g00864/laws.FnExactStateAfter", spec := "fnExactStateAfter", unfollowed := true, recurses := true, apart := false, narrowed := true }
def FnExactStateAfterUptoSaid : Prop := fnExactStateAfterUptoRow.holds Try.pinned (OpenSpec.upto fnExactStateAfterSpec)

/-- 'laws.FnExactEqualUpToPhase', WHERE WHAT IT READS IS OF BULK AT MOST 1048576: true; the input reads as it did. -/
def fnExactEqualUpToPhaseUptoRow : OpenClaim := { program := "ytncgccpkbneagaa", sum := "b109590e0d3270fa941f350c42e33a2541a9dacb43505eaf93d61fcf7226b23c", func := "loop.example/g00864/laws.FnExactEqualUpToPhase", spec := "fnExactEqualUpToPhase", unfollowed := true, recurses := true, apart := false, narrowed := true }
def FnExactEqualUpToPhaseUptoSaid : Prop := fnExactEqualUpToPhaseUptoRow.holds Try.pinned (OpenSpec.upto fnExactEqualUpToPhaseSpec)

/-- 'laws.FnExactSameOperator', WHERE WHAT IT READS IS OF BULK AT MOST 1048576: true; the input reads as it did. -/
def fnExactSameOperatorUptoRow : OpenClaim := { program := "ytncgccpkbneagaa", sum := "b109590e0d3270fa941f350c42e33a2541a9dacb43505eaf93d61fcf7226b23c", func := "loop.example/g00864/laws.FnExactSameOperator", spec := "fnExactSameOperator", unfollowed := true, recurses := true, apart := false, narrowed := true }
def FnExactSameOperatorUptoSaid : Prop := fnExactSameOperatorUptoRow.holds Try.pinned (OpenSpec.upto fnExactSameOperatorSpec)

/-- 'laws.FnExactIsPhase', WHERE WHAT IT READS IS OF BULK AT MOST 1048576: true; the input reads as it did. -/
def fnExactIsPhaseUptoRow : OpenClaim := { program := "ytncgccpkbneagaa", sum := "b109590e0d3270fa941f350c42e33a2541a9dacb43505eaf93d61fcf7226b23c", func := "loop.example/g00864/laws.FnExactIsPhase", spec := "fnExactIsPhase", unfollowed := true, recurses := true, apart := false, narrowed := true }
def FnExactIsPhaseUptoSaid : Prop := fnExactIsPhaseUptoRow.holds Try.pinned (OpenSpec.upto fnExactIsPhaseSpec)

/-- 'laws.FnExactOutcomeWeight', WHERE WHAT IT READS IS OF BULK AT MOST 1048576: true; the input reads as it did. -/
def fnExactOutcomeWeightUptoRow : OpenClaim := { program := "ytncgccpkbneagaa", sum := "b109590e0d3270fa941f350c42e33a2541a9dacb43505eaf93d61fcf7226b23c", func := "loop.example/g00864/laws.FnExactOutcomeWeight", spec := "fnExactOutcomeWeight", unfollowed := true, recurses := true, apart := false, narrowed := true }
def FnExactOutcomeWeightUptoSaid : Prop := fnExactOutcomeWeightUptoRow.holds Try.pinned (OpenSpec.upto fnExactOutcomeWeightSpec)

/-- 'laws.FnExactQubitWeight', WHERE WHAT IT READS IS OF BULK AT MOST 1048576: true; the input reads as it did. -/
def fnExactQubitWeightUptoRow : OpenClaim := { program := "ytncgccpkbneagaa", sum := "b109590e0d3270fa941f350c42e33a2541a9dacb43505eaf93d61fcf7226b23c", func := "loop.example/g00864/laws.FnExactQubitWeight", spec := "fnExactQubitWeight", unfollowed := true, recurses := true, apart := false, narrowed := true }
def FnExactQubitWeightUptoSaid : Prop := fnExactQubitWeightUptoRow.holds Try.pinned (OpenSpec.upto fnExactQubitWeightSpec)

/-- 'laws.FnExactControlledOf', WHERE WHAT IT READS IS OF BULK AT MOST 1048576: true; the input reads as it did. -/
def fnExactControlledOfUptoRow : OpenClaim := { program := "ytncgccpkbneagaa", sum := "b109590e0d3270fa941f350c42e33a2541a9dacb43505eaf93d61fcf7226b23c", func := "loop.example/g00864/laws.FnExactControlledOf", spec := "fnExactControlledOf", apart := false, narrowed := true }
def FnExactControlledOfUptoSaid : Prop := fnExactControlledOfUptoRow.holds Try.pinned (OpenSpec.upto fnExactControlledOfSpec)

end Rows
end Go.Proofs.Ytncgccpkbneagaa
