/-
  No cell of these rows narrows 'for every input' (looked for: loops, veiled, ifaces, maps, wideKeys, modest, calm, conditions, laid).
  DERIVED. THE GIVEN ROWS OF THIS SEAT. 18 by the template 'for every input the law returns true; each argument reads behind the call as it read before'; 0 by the template 'total and deterministic' (their statements: YtnjckeadcbfogaaTotals.lean).
  GIVEN WITH THE SEED: the statements are not yours to turn. If you find one false, say at which input.
  Laid BY PROGRAM, IN A SANDBOX (cutbox-rows.mjs): the forced cells as the released guide's own fill.sh prints them over the translation e6415f5ff0ec87d9… (all of the seat's roots in one cut). By AI agents, Wed Nov 11 2026. No macro, syntax, notation, axiom, sorry.
-/
import Derived.Test.YtnjckeadcbfogaaChecked
import GoSem.Claim
import GoSem.ClaimJoined
import GoSem.ClaimMapViews
import Derived.JoinedTies
import Derived.KernelRfl
namespace Go.Proofs.Ytnjckeadcbfogaa
/- THE CELL 'sum', in the pinned program and in every row, IS THE sha256 OF THE DUMP (.gsa) THAT YtnjckeadcbfogaaProg.lean LOADS. Nothing in Lean hashes anything: it is a label: what it is worth is what the hold of that sum in a sandbox is worth. -/
noncomputable def Try.pinned : Pinned := { name := "ytnjckeadcbfogaa", sum := "e6415f5ff0ec87d9a1cd19cf851ea537f30f37865d5295947823beaaaaf88499", checked := Try.checked }
namespace Rows
def none {H : Type} : Left H := { results := [], args := [] }

/-- 'laws.FnExactMulMatrix': WHATEVER THE INPUT: true; the input reads as it did. -/
def fnExactMulMatrixSpec : ChangeSpec := { name := "fnExactMulMatrix", fn := fun _ => fun
  | [d1, d2] => { results := [.lit (.bool true)], args := [d1, d2] }
  | _ => none }
def fnExactMulMatrixRow : OpenClaim := { program := "ytnjckeadcbfogaa", sum := "e6415f5ff0ec87d9a1cd19cf851ea537f30f37865d5295947823beaaaaf88499", func := "loop.example/g00864/laws.FnExactMulMatrix", spec := "fnExactMulMatrix", apart := false }
def FnExactMulMatrixSaid : Prop := fnExactMulMatrixRow.holds Try.pinned (OpenSpec.ofChange fnExactMulMatrixSpec)

/-- ITS FALSE NEIGHBOUR: 'it returns false'. Refute it at one input. -/
def fnExactMulMatrixWrong : ChangeSpec := { name := "fnExactMulMatrix", fn := fun _ => fun
  | [d1, d2] => { results := [.lit (.bool false)], args := [d1, d2] }
  | _ => none }
def FnExactMulMatrixWrongFalsely : Prop := fnExactMulMatrixRow.holds Try.pinned (OpenSpec.ofChange fnExactMulMatrixWrong)

/-- 'laws.FnExactIsUnitary': WHATEVER THE INPUT: true; the input reads as it did. -/
def fnExactIsUnitarySpec : ChangeSpec := { name := "fnExactIsUnitary", fn := fun _ => fun
  | [d] => { results := [.lit (.bool true)], args := [d] }
  | _ => none }
def fnExactIsUnitaryRow : OpenClaim := { program := "ytnjckeadcbfogaa", sum := "e6415f5ff0ec87d9a1cd19cf851ea537f30f37865d5295947823beaaaaf88499", func := "loop.example/g00864/laws.FnExactIsUnitary", spec := "fnExactIsUnitary", apart := false }
def FnExactIsUnitarySaid : Prop := fnExactIsUnitaryRow.holds Try.pinned (OpenSpec.ofChange fnExactIsUnitarySpec)

/-- ITS FALSE NEIGHBOUR: 'it returns false'. Refute it at one input. -/
def fnExactIsUnitaryWrong : ChangeSpec := { name := "fnExactIsUnitary", fn := fun _ => fun
  | [d] => { results := [.lit (.bool false)], args := [d] }
  | _ => none }
def FnExactIsUnitaryWrongFalsely : Prop := fnExactIsUnitaryRow.holds Try.pinned (OpenSpec.ofChange fnExactIsUnitaryWrong)

/-- 'laws.FnExactOperatorOf': WHATEVER THE INPUT: true; the input reads as it did. -/
def fnExactOperatorOfSpec : ChangeSpec := { name := "fnExactOperatorOf", fn := fun _ => fun
  | [d] => { results := [.lit (.bool true)], args := [d] }
  | _ => none }
def fnExactOperatorOfRow : OpenClaim := { program := "ytnjckeadcbfogaa", sum := "e6415f5ff0ec87d9a1cd19cf851ea537f30f37865d5295947823beaaaaf88499", func := "loop.example/g00864/laws.FnExactOperatorOf", spec := "fnExactOperatorOf", unfollowed := true, recurses := true, apart := false }
def FnExactOperatorOfSaid : Prop := fnExactOperatorOfRow.holds Try.pinned (OpenSpec.ofChange fnExactOperatorOfSpec)

/-- ITS FALSE NEIGHBOUR: 'it returns false'. Refute it at one input. -/
def fnExactOperatorOfWrong : ChangeSpec := { name := "fnExactOperatorOf", fn := fun _ => fun
  | [d] => { results := [.lit (.bool false)], args := [d] }
  | _ => none }
def FnExactOperatorOfWrongFalsely : Prop := fnExactOperatorOfRow.holds Try.pinned (OpenSpec.ofChange fnExactOperatorOfWrong)

/-- 'laws.FnExactStateAfter': WHATEVER THE INPUT: true; the input reads as it did. -/
def fnExactStateAfterSpec : ChangeSpec := { name := "fnExactStateAfter", fn := fun _ => fun
  | [d1, d2] => { results := [.lit (.bool true)], args := [d1, d2] }
  | _ => none }
def fnExactStateAfterRow : OpenClaim := { program := "ytnjckeadcbfogaa", sum := "e6415f5ff0ec87d9a1cd19cf851ea537f30f37865d5295947823beaaaaf88499", func := "loop.example/g00864/laws.FnExactStateAfter", spec := "fnExactStateAfter", unfollowed := true, recurses := true, apart := false }
def FnExactStateAfterSaid : Prop := fnExactStateAfterRow.holds Try.pinned (OpenSpec.ofChange fnExactStateAfterSpec)

/-- ITS FALSE NEIGHBOUR: 'it returns false'. Refute it at one input. -/
def fnExactStateAfterWrong : ChangeSpec := { name := "fnExactStateAfter", fn := fun _ => fun
  | [d1, d2] => { results := [.lit (.bool false)], args := [d1, d2] }
  | _ => none }
def FnExactStateAfterWrongFalsely : Prop := fnExactStateAfterRow.holds Try.pinned (OpenSpec.ofChange fnExactStateAfterWrong)

/-- 'laws.FnExactSameOperator': WHATEVER THE INPUT: true; the input reads as it did. -/
def fnExactSameOperatorSpec : ChangeSpec := { name := "fnExactSameOperator", fn := fun _ => fun
  | [d1, d2] => { results := [.lit (.bool true)], args := [d1, d2] }
  | _ => none }
def fnExactSameOperatorRow : OpenClaim := { program := "ytnjckeadcbfogaa", sum := "e6415f5ff0ec87d9a1cd19cf851ea537f30f37865d5295947823beaaaaf88499", func := "loop.example/g00864/laws.FnExactSameOperator", spec := "fnExactSameOperator", unfollowed := true, recurses := true, apart := false }
def FnExactSameOperatorSaid : Prop := fnExactSameOperatorRow.holds Try.pinned (OpenSpec.ofChange fnExactSameOperatorSpec)

/-- ITS FALSE NEIGHBOUR: 'it returns false'. Refute it at one input. -/
def fnExactSameOperatorWrong : ChangeSpec := { name := "fnExactSameOperator", fn := fun _ => fun
  | [d1, d2] => { results := [.lit (.bool false)], args := [d1, d2] }
  | _ => none }
def FnExactSameOperatorWrongFalsely : Prop := fnExactSameOperatorRow.holds Try.pinned (OpenSpec.ofChange fnExactSameOperatorWrong)

/-- 'laws.FnExactIsPhase': WHATEVER THE INPUT: true; the input reads as it did. -/
def fnExactIsPhaseSpec : ChangeSpec := { name := "fnExactIsPhase", fn := fun _ => fun
  | [d] => { results := [.lit (.bool true)], args := [d] }
  | _ => none }
def fnExactIsPhaseRow : OpenClaim := { program := "ytnjckeadcbfogaa", sum := "e6415f5ff0ec87d9a1cd19cf851ea537f30f37865d5295947823beaaaaf88499", func := "loop.example/g00864/laws.FnExactIsPhase", spec := "fnExactIsPhase", unfollowed := true, recurses := true, apart := false }
def FnExactIsPhaseSaid : Prop := fnExactIsPhaseRow.holds Try.pinned (OpenSpec.ofChange fnExactIsPhaseSpec)

/-- ITS FALSE NEIGHBOUR: 'it returns false'. Refute it at one input. -/
def fnExactIsPhaseWrong : ChangeSpec := { name := "fnExactIsPhase", fn := fun _ => fun
  | [d] => { results := [.lit (.bool false)], args := [d] }
  | _ => none }
def FnExactIsPhaseWrongFalsely : Prop := fnExactIsPhaseRow.holds Try.pinned (OpenSpec.ofChange fnExactIsPhaseWrong)

/-- 'laws.FnExactOutcomeWeight': WHATEVER THE INPUT: true; the input reads as it did. -/
def fnExactOutcomeWeightSpec : ChangeSpec := { name := "fnExactOutcomeWeight", fn := fun _ => fun
  | [d1, d2, d3] => { results := [.lit (.bool true)], args := [d1, d2, d3] }
  | _ => none }
def fnExactOutcomeWeightRow : OpenClaim := { program := "ytnjckeadcbfogaa", sum := "e6415f5ff0ec87d9a1cd19cf851ea537f30f37865d5295947823beaaaaf88499", func := "loop.example/g00864/laws.FnExactOutcomeWeight", spec := "fnExactOutcomeWeight", unfollowed := true, recurses := true, apart := false }
def FnExactOutcomeWeightSaid : Prop := fnExactOutcomeWeightRow.holds Try.pinned (OpenSpec.ofChange fnExactOutcomeWeightSpec)

/-- ITS FALSE NEIGHBOUR: 'it returns false'. Refute it at one input. -/
def fnExactOutcomeWeightWrong : ChangeSpec := { name := "fnExactOutcomeWeight", fn := fun _ => fun
  | [d1, d2, d3] => { results := [.lit (.bool false)], args := [d1, d2, d3] }
  | _ => none }
def FnExactOutcomeWeightWrongFalsely : Prop := fnExactOutcomeWeightRow.holds Try.pinned (OpenSpec.ofChange fnExactOutcomeWeightWrong)

/-- 'laws.FnExactQubitWeight': WHATEVER THE INPUT: true; the input reads as it did. -/
def fnExactQubitWeightSpec : ChangeSpec := { name := "fnExactQubitWeight", fn := fun _ => fun
  | [d1, d2, d3] => { results := [.lit (.bool true)], args := [d1, d2, d3] }
  | _ => none }
def fnExactQubitWeightRow : OpenClaim := { program := "ytnjckeadcbfogaa", sum := "e6415f5ff0ec87d9a1cd19cf851ea537f30f37865d5295947823beaaaaf88499", func := "loop.example/g00864/laws.FnExactQubitWeight", spec := "fnExactQubitWeight", unfollowed := true, recurses := true, apart := false }
def FnExactQubitWeightSaid : Prop := fnExactQubitWeightRow.holds Try.pinned (OpenSpec.ofChange fnExactQubitWeightSpec)

/-- ITS FALSE NEIGHBOUR: 'it returns false'. Refute it at one input. -/
def fnExactQubitWeightWrong : ChangeSpec := { name := "fnExactQubitWeight", fn := fun _ => fun
  | [d1, d2, d3] => { results := [.lit (.bool false)], args := [d1, d2, d3] }
  | _ => none }
def FnExactQubitWeightWrongFalsely : Prop := fnExactQubitWeightRow.holds Try.pinned (OpenSpec.ofChange fnExactQubitWeightWrong)

/-- 'laws.FnExactPauliMatrix': WHATEVER THE INPUT: true; the input reads as it did. -/
def fnExactPauliMatrixSpec : ChangeSpec := { name := "fnExactPauliMatrix", fn := fun _ => fun
  | [d1, d2] => { results := [.lit (.bool true)], args := [d1, d2] }
  | _ => none }
def fnExactPauliMatrixRow : OpenClaim := { program := "ytnjckeadcbfogaa", sum := "e6415f5ff0ec87d9a1cd19cf851ea537f30f37865d5295947823beaaaaf88499", func := "loop.example/g00864/laws.FnExactPauliMatrix", spec := "fnExactPauliMatrix", apart := false }
def FnExactPauliMatrixSaid : Prop := fnExactPauliMatrixRow.holds Try.pinned (OpenSpec.ofChange fnExactPauliMatrixSpec)

/-- ITS FALSE NEIGHBOUR: 'it returns false'. Refute it at one input. -/
def fnExactPauliMatrixWrong : ChangeSpec := { name := "fnExactPauliMatrix", fn := fun _ => fun
  | [d1, d2] => { results := [.lit (.bool false)], args := [d1, d2] }
  | _ => none }
def FnExactPauliMatrixWrongFalsely : Prop := fnExactPauliMatrixRow.holds Try.pinned (OpenSpec.ofChange fnExactPauliMatrixWrong)

/-- 'laws.FnExactIsOneQubit': WHATEVER THE INPUT: true; the input reads as it did. -/
def fnExactIsOneQubitSpec : ChangeSpec := { name := "fnExactIsOneQubit", fn := fun _ => fun
  | [d] => { results := [.lit (.bool true)], args := [d] }
  | _ => none }
def fnExactIsOneQubitRow : OpenClaim := { program := "ytnjckeadcbfogaa", sum := "e6415f5ff0ec87d9a1cd19cf851ea537f30f37865d5295947823beaaaaf88499", func := "loop.example/g00864/laws.FnExactIsOneQubit", spec := "fnExactIsOneQubit", apart := false }
def FnExactIsOneQubitSaid : Prop := fnExactIsOneQubitRow.holds Try.pinned (OpenSpec.ofChange fnExactIsOneQubitSpec)

/-- ITS FALSE NEIGHBOUR: 'it returns false'. Refute it at one input. -/
def fnExactIsOneQubitWrong : ChangeSpec := { name := "fnExactIsOneQubit", fn := fun _ => fun
  | [d] => { results := [.lit (.bool false)], args := [d] }
  | _ => none }
def FnExactIsOneQubitWrongFalsely : Prop := fnExactIsOneQubitRow.holds Try.pinned (OpenSpec.ofChange fnExactIsOneQubitWrong)

/-- 'laws.FnExactBlochOf': WHATEVER THE INPUT: true; the input reads as it did. -/
def fnExactBlochOfSpec : ChangeSpec := { name := "fnExactBlochOf", fn := fun _ => fun
  | [d] => { results := [.lit (.bool true)], args := [d] }
  | _ => none }
def fnExactBlochOfRow : OpenClaim := { program := "ytnjckeadcbfogaa", sum := "e6415f5ff0ec87d9a1cd19cf851ea537f30f37865d5295947823beaaaaf88499", func := "loop.example/g00864/laws.FnExactBlochOf", spec := "fnExactBlochOf", apart := false }
def FnExactBlochOfSaid : Prop := fnExactBlochOfRow.holds Try.pinned (OpenSpec.ofChange fnExactBlochOfSpec)

/-- ITS FALSE NEIGHBOUR: 'it returns false'. Refute it at one input. -/
def fnExactBlochOfWrong : ChangeSpec := { name := "fnExactBlochOf", fn := fun _ => fun
  | [d] => { results := [.lit (.bool false)], args := [d] }
  | _ => none }
def FnExactBlochOfWrongFalsely : Prop := fnExactBlochOfRow.holds Try.pinned (OpenSpec.ofChange fnExactBlochOfWrong)

/-- 'laws.FnExactIsValidBloch': WHATEVER THE INPUT: true; the input reads as it did. -/
def fnExactIsValidBlochSpec : ChangeSpec := { name := "fnExactIsValidBloch", fn := fun _ => fun
  | [d] => { results := [.lit (.bool true)], args := [d] }
  | _ => none }
def fnExactIsValidBlochRow : OpenClaim := { program := "ytnjckeadcbfogaa", sum := "e6415f5ff0ec87d9a1cd19cf851ea537f30f37865d5295947823beaaaaf88499", func := "loop.example/g00864/laws.FnExactIsValidBloch", spec := "fnExactIsValidBloch", apart := false }
def FnExactIsValidBlochSaid : Prop := fnExactIsValidBlochRow.holds Try.pinned (OpenSpec.ofChange fnExactIsValidBlochSpec)

/-- ITS FALSE NEIGHBOUR: 'it returns false'. Refute it at one input. -/
def fnExactIsValidBlochWrong : ChangeSpec := { name := "fnExactIsValidBloch", fn := fun _ => fun
  | [d] => { results := [.lit (.bool false)], args := [d] }
  | _ => none }
def FnExactIsValidBlochWrongFalsely : Prop := fnExactIsValidBlochRow.holds Try.pinned (OpenSpec.ofChange fnExactIsValidBlochWrong)

/-- 'laws.FnExactMulBloch': WHATEVER THE INPUT: true; the input reads as it did. -/
def fnExactMulBlochSpec : ChangeSpec := { name := "fnExactMulBloch", fn := fun _ => fun
  | [d1, d2] => { results := [.lit (.bool true)], args := [d1, d2] }
  | _ => none }
def fnExactMulBlochRow : OpenClaim := { program := "ytnjckeadcbfogaa", sum := "e6415f5ff0ec87d9a1cd19cf851ea537f30f37865d5295947823beaaaaf88499", func := "loop.example/g00864/laws.FnExactMulBloch", spec := "fnExactMulBloch", apart := false }
def FnExactMulBlochSaid : Prop := fnExactMulBlochRow.holds Try.pinned (OpenSpec.ofChange fnExactMulBlochSpec)

/-- ITS FALSE NEIGHBOUR: 'it returns false'. Refute it at one input. -/
def fnExactMulBlochWrong : ChangeSpec := { name := "fnExactMulBloch", fn := fun _ => fun
  | [d1, d2] => { results := [.lit (.bool false)], args := [d1, d2] }
  | _ => none }
def FnExactMulBlochWrongFalsely : Prop := fnExactMulBlochRow.holds Try.pinned (OpenSpec.ofChange fnExactMulBlochWrong)

/-- 'laws.FnExactTransposeBloch': WHATEVER THE INPUT: true; the input reads as it did. -/
def fnExactTransposeBlochSpec : ChangeSpec := { name := "fnExactTransposeBloch", fn := fun _ => fun
  | [d] => { results := [.lit (.bool true)], args := [d] }
  | _ => none }
def fnExactTransposeBlochRow : OpenClaim := { program := "ytnjckeadcbfogaa", sum := "e6415f5ff0ec87d9a1cd19cf851ea537f30f37865d5295947823beaaaaf88499", func := "loop.example/g00864/laws.FnExactTransposeBloch", spec := "fnExactTransposeBloch", apart := false }
def FnExactTransposeBlochSaid : Prop := fnExactTransposeBlochRow.holds Try.pinned (OpenSpec.ofChange fnExactTransposeBlochSpec)

/-- ITS FALSE NEIGHBOUR: 'it returns false'. Refute it at one input. -/
def fnExactTransposeBlochWrong : ChangeSpec := { name := "fnExactTransposeBloch", fn := fun _ => fun
  | [d] => { results := [.lit (.bool false)], args := [d] }
  | _ => none }
def FnExactTransposeBlochWrongFalsely : Prop := fnExactTransposeBlochRow.holds Try.pinned (OpenSpec.ofChange fnExactTransposeBlochWrong)

/-- 'laws.FnExactBlochExp': WHATEVER THE INPUT: true; the input reads as it did. -/
def fnExactBlochExpSpec : ChangeSpec := { name := "fnExactBlochExp", fn := fun _ => fun
  | [d] => { results := [.lit (.bool true)], args := [d] }
  | _ => none }
def fnExactBlochExpRow : OpenClaim := { program := "ytnjckeadcbfogaa", sum := "e6415f5ff0ec87d9a1cd19cf851ea537f30f37865d5295947823beaaaaf88499", func := "loop.example/g00864/laws.FnExactBlochExp", spec := "fnExactBlochExp", apart := false }
def FnExactBlochExpSaid : Prop := fnExactBlochExpRow.holds Try.pinned (OpenSpec.ofChange fnExactBlochExpSpec)

/-- ITS FALSE NEIGHBOUR: 'it returns false'. Refute it at one input. -/
def fnExactBlochExpWrong : ChangeSpec := { name := "fnExactBlochExp", fn := fun _ => fun
  | [d] => { results := [.lit (.bool false)], args := [d] }
  | _ => none }
def FnExactBlochExpWrongFalsely : Prop := fnExactBlochExpRow.holds Try.pinned (OpenSpec.ofChange fnExactBlochExpWrong)

/-- 'laws.FnExactParityOf': WHATEVER THE INPUT: true; the input reads as it did. -/
def fnExactParityOfSpec : ChangeSpec := { name := "fnExactParityOf", fn := fun _ => fun
  | [d] => { results := [.lit (.bool true)], args := [d] }
  | _ => none }
def fnExactParityOfRow : OpenClaim := { program := "ytnjckeadcbfogaa", sum := "e6415f5ff0ec87d9a1cd19cf851ea537f30f37865d5295947823beaaaaf88499", func := "loop.example/g00864/laws.FnExactParityOf", spec := "fnExactParityOf", apart := false }
def FnExactParityOfSaid : Prop := fnExactParityOfRow.holds Try.pinned (OpenSpec.ofChange fnExactParityOfSpec)

/-- ITS FALSE NEIGHBOUR: 'it returns false'. Refute it at one input. -/
def fnExactParityOfWrong : ChangeSpec := { name := "fnExactParityOf", fn := fun _ => fun
  | [d] => { results := [.lit (.bool false)], args := [d] }
  | _ => none }
def FnExactParityOfWrongFalsely : Prop := fnExactParityOfRow.holds Try.pinned (OpenSpec.ofChange fnExactParityOfWrong)

/-- 'laws.FnExactCliffordWord': WHATEVER THE INPUT: true; the input reads as it did. -/
def fnExactCliffordWordSpec : ChangeSpec := { name := "fnExactCliffordWord", fn := fun _ => fun
  | [d] => { results := [.lit (.bool true)], args := [d] }
  | _ => none }
def fnExactCliffordWordRow : OpenClaim := { program := "ytnjckeadcbfogaa", sum := "e6415f5ff0ec87d9a1cd19cf851ea537f30f37865d5295947823beaaaaf88499", func := "loop.example/g00864/laws.FnExactCliffordWord", spec := "fnExactCliffordWord", unfollowed := true, recurses := true, apart := false }
def FnExactCliffordWordSaid : Prop := fnExactCliffordWordRow.holds Try.pinned (OpenSpec.ofChange fnExactCliffordWordSpec)

/-- ITS FALSE NEIGHBOUR: 'it returns false'. Refute it at one input. -/
def fnExactCliffordWordWrong : ChangeSpec := { name := "fnExactCliffordWord", fn := fun _ => fun
  | [d] => { results := [.lit (.bool false)], args := [d] }
  | _ => none }
def FnExactCliffordWordWrongFalsely : Prop := fnExactCliffordWordRow.holds Try.pinned (OpenSpec.ofChange fnExactCliffordWordWrong)

/-- 'laws.FnExactCliffordIndex': WHATEVER THE INPUT: true; the input reads as it did. -/
def fnExactCliffordIndexSpec : ChangeSpec := { name := "fnExactCliffordIndex", fn := fun _ => fun
  | [d] => { results := [.lit (.bool true)], args := [d] }
  | _ => none }
def fnExactCliffordIndexRow : OpenClaim := { program := "ytnjckeadcbfogaa", sum := "e6415f5ff0ec87d9a1cd19cf851ea537f30f37865d5295947823beaaaaf88499", func := "loop.example/g00864/laws.FnExactCliffordIndex", spec := "fnExactCliffordIndex", unfollowed := true, recurses := true, apart := false }
def FnExactCliffordIndexSaid : Prop := fnExactCliffordIndexRow.holds Try.pinned (OpenSpec.ofChange fnExactCliffordIndexSpec)

/-- ITS FALSE NEIGHBOUR: 'it returns false'. Refute it at one input. -/
def fnExactCliffordIndexWrong : ChangeSpec := { name := "fnExactCliffordIndex", fn := fun _ => fun
  | [d] => { results := [.lit (.bool false)], args := [d] }
  | _ => none }
def FnExactCliffordIndexWrongFalsely : Prop := fnExactCliffordIndexRow.holds Try.pinned (OpenSpec.ofChange fnExactCliffordIndexWrong)

/- THE SECOND FORM. 'bulk': how many values and letters a reading holds, each counted each time it is reached (what is shared counts as often as it is met; a slice's spare places count too). A statement '..UptoSaid' is the law's where the arguments, and the package variables that the reading takes, are together of bulk at most 1048576: NARROWER than '..Said'. Prove '..Said' where nothing that the law and all that it calls make is longer than what came in: it says more and counts as full. Else prove '..UptoSaid'. A law counts once. -/
mutual
def uptoBulk {H : Type} : DataW H → Nat
  | .lit (.string bytes) => bytes.length + 1
  | .lit _ => 1
  | .nil => 1
  | .ptr d => uptoBulk d + 1
  | .slice elems spare => uptoBulkAll elems + uptoBulkAll spare + 1
  | .agg parts => uptoBulkAll parts + 1
  | .iface _ d => uptoBulk d + 1
  | .map entries => uptoBulkEntries entries + 1
  | .held _ => 1
def uptoBulkAll {H : Type} : List (DataW H) → Nat
  | [] => 0
  | d :: r => uptoBulk d + uptoBulkAll r
def uptoBulkEntries {H : Type} : List (Lit × DataW H) → Nat
  | [] => 0
  | x :: r => uptoBulkEntry x + uptoBulkEntries r
def uptoBulkEntry {H : Type} : Lit × DataW H → Nat
  | (.string bytes, d) => bytes.length + uptoBulk d + 1
  | (_, d) => uptoBulk d + 1
 end
def uptoSmall : (H : Type) → List (DataW H) → Bool := fun _ ds => decide (uptoBulkAll ds ≤ 1048576)
def OpenSpec.upto (s : _root_.Go.ChangeSpec) : _root_.Go.OpenSpec := { _root_.Go.OpenSpec.ofChange s with cond := some uptoSmall }

/-- 'laws.FnExactMulMatrix', WHERE WHAT IT READS IS OF BULK AT MOST 1048576: true; the input reads as it did. -/
def fnExactMulMatrixUptoRow : OpenClaim := { program := "ytnjckeadcbfogaa", sum := "e6415f5ff0ec87d9a1cd19cf851ea537f30f37865d5295947823beaaaaf88499", func := "loop.example/g00864/laws.FnExactMulMatrix", spec := "fnExactMulMatrix", apart := false, narrowed := true }
def FnExactMulMatrixUptoSaid : Prop := fnExactMulMatrixUptoRow.holds Try.pinned (OpenSpec.upto fnExactMulMatrixSpec)

/-- 'laws.FnExactIsUnitary', WHERE WHAT IT READS IS OF BULK AT MOST 1048576: true; the input reads as it did. -/
def fnExactIsUnitaryUptoRow : OpenClaim := { program := "ytnjckeadcbfogaa", sum := "e6415f5ff0ec87d9a1cd19cf851ea537f30f37865d5295947823beaaaaf88499", func := "loop.example/g00864/laws.FnExactIsUnitary", spec := "fnExactIsUnitary", apart := false, narrowed := true }
def FnExactIsUnitaryUptoSaid : Prop := fnExactIsUnitaryUptoRow.holds Try.pinned (OpenSpec.upto fnExactIsUnitarySpec)

/-- 'laws.FnExactOperatorOf', WHERE WHAT IT READS IS OF BULK AT MOST 1048576: true; the input reads as it did. -/
def fnExactOperatorOfUptoRow : OpenClaim := { program := "ytnjckeadcbfogaa", sum := "e6415f5ff0ec87d9a1cd19cf851ea537f30f37865d5295947823beaaaaf88499", func := "loop.example/g00864/laws.FnExactOperatorOf", spec := "fnExactOperatorOf", unfollowed := true, recurses := true, apart := false, narrowed := true }
def FnExactOperatorOfUptoSaid : Prop := fnExactOperatorOfUptoRow.holds Try.pinned (OpenSpec.upto fnExactOperatorOfSpec)

/-- 'laws.FnExactStateAfter', WHERE WHAT IT READS IS OF BULK AT MOST 1048576: true; the input reads as it did. -/
def fnExactStateAfterUptoRow : OpenClaim := { program := "ytnjckeadcbfogaa", sum := "e6415f5ff0ec87d9a1cd19cf851ea537f30f37865d5295947823beaaaaf88499", func := "loop.example/g00864/laws.FnExactStateAfter", spec := "fnExactStateAfter", unfollowed := true, recurses := true, apart := false, narrowed := true }
def FnExactStateAfterUptoSaid : Prop := fnExactStateAfterUptoRow.holds Try.pinned (OpenSpec.upto fnExactStateAfterSpec)

/-- 'laws.FnExactSameOperator', WHERE WHAT IT READS IS OF BULK AT MOST 1048576: true; the input reads as it did. -/
def fnExactSameOperatorUptoRow : OpenClaim := { program := "ytnjckeadcbfogaa", sum := "e6415f5ff0ec87d9a1cd19cf851ea537f30f37865d5295947823beaaaaf88499", func := "loop.example/g00864/laws.FnExactSameOperator", spec := "fnExactSameOperator", unfollowed := true, recurses := true, apart := false, narrowed := true }
def FnExactSameOperatorUptoSaid : Prop := fnExactSameOperatorUptoRow.holds Try.pinned (OpenSpec.upto fnExactSameOperatorSpec)

/-- 'laws.FnExactIsPhase', WHERE WHAT IT READS IS OF BULK AT MOST 1048576: true; the input reads as it did. -/
def fnExactIsPhaseUptoRow : OpenClaim := { program := "ytnjckeadcbfogaa", sum := "e6415f5ff0ec87d9a1cd19cf851ea537f30f37865d5295947823beaaaaf88499", func := "loop.example/g00864/laws.FnExactIsPhase", spec := "fnExactIsPhase", unfollowed := true, recurses := true, apart := false, narrowed := true }
def FnExactIsPhaseUptoSaid : Prop := fnExactIsPhaseUptoRow.holds Try.pinned (OpenSpec.upto fnExactIsPhaseSpec)

/-- 'laws.FnExactOutcomeWeight', WHERE WHAT IT READS IS OF BULK AT MOST 1048576: true; the input reads as it did. -/
def fnExactOutcomeWeightUptoRow : OpenClaim := { program := "ytnjckeadcbfogaa", sum := "e6415f5ff0ec87d9a1cd19cf851ea537f30f37865d5295947823beaaaaf88499", func := "loop.example/g00864/laws.FnExactOutcomeWeight", spec := "fnExactOutcomeWeight", unfollowed := true, recurses := true, apart := false, narrowed := true }
def FnExactOutcomeWeightUptoSaid : Prop := fnExactOutcomeWeightUptoRow.holds Try.pinned (OpenSpec.upto fnExactOutcomeWeightSpec)

/-- 'laws.FnExactQubitWeight', WHERE WHAT IT READS IS OF BULK AT MOST 1048576: true; the input reads as it did. -/
def fnExactQubitWeightUptoRow : OpenClaim := { program := "ytnjckeadcbfogaa", sum := "e6415f5ff0ec87d9a1cd19cf851ea537f30f37865d5295947823beaaaaf88499", func := "loop.example/g00864/laws.FnExactQubitWeight", spec := "fnExactQubitWeight", unfollowed := true, recurses := true, apart := false, narrowed := true }
def FnExactQubitWeightUptoSaid : Prop := fnExactQubitWeightUptoRow.holds Try.pinned (OpenSpec.upto fnExactQubitWeightSpec)

/-- 'laws.FnExactPauliMatrix', WHERE WHAT IT READS IS OF BULK AT MOST 1048576: true; the input reads as it did. -/
def fnExactPauliMatrixUptoRow : OpenClaim := { program := "ytnjckeadcbfogaa", sum := "e6415f5ff0ec87d9a1cd19cf851ea537f30f37865d5295947823beaaaaf88499", func := "loop.example/g00864/laws.FnExactPauliMatrix", spec := "fnExactPauliMatrix", apart := false, narrowed := true }
def FnExactPauliMatrixUptoSaid : Prop := fnExactPauliMatrixUptoRow.holds Try.pinned (OpenSpec.upto fnExactPauliMatrixSpec)

/-- 'laws.FnExactIsOneQubit', WHERE WHAT IT READS IS OF BULK AT MOST 1048576: true; the input reads as it did. -/
def fnExactIsOneQubitUptoRow : OpenClaim := { program := "ytnjckeadcbfogaa", sum := "e6415f5ff0ec87d9a1cd19cf851ea537f30f37865d5295947823beaaaaf88499", func := "loop.example/g00864/laws.FnExactIsOneQubit", spec := "fnExactIsOneQubit", apart := false, narrowed := true }
def FnExactIsOneQubitUptoSaid : Prop := fnExactIsOneQubitUptoRow.holds Try.pinned (OpenSpec.upto fnExactIsOneQubitSpec)

/-- 'laws.FnExactBlochOf', WHERE WHAT IT READS IS OF BULK AT MOST 1048576: true; the input reads as it did. -/
def fnExactBlochOfUptoRow : OpenClaim := { program := "ytnjckeadcbfogaa", sum := "e6415f5ff0ec87d9a1cd19cf851ea537f30f37865d5295947823beaaaaf88499", func := "loop.example/g00864/laws.FnExactBlochOf", spec := "fnExactBlochOf", apart := false, narrowed := true }
def FnExactBlochOfUptoSaid : Prop := fnExactBlochOfUptoRow.holds Try.pinned (OpenSpec.upto fnExactBlochOfSpec)

/-- 'laws.FnExactIsValidBloch', WHERE WHAT IT READS IS OF BULK AT MOST 1048576: true; the input reads as it did. -/
def fnExactIsValidBlochUptoRow : OpenClaim := { program := "ytnjckeadcbfogaa", sum := "e6415f5ff0ec87d9a1cd19cf851ea537f30f37865d5295947823beaaaaf88499", func := "loop.example/g00864/laws.FnExactIsValidBloch", spec := "fnExactIsValidBloch", apart := false, narrowed := true }
def FnExactIsValidBlochUptoSaid : Prop := fnExactIsValidBlochUptoRow.holds Try.pinned (OpenSpec.upto fnExactIsValidBlochSpec)

/-- 'laws.FnExactMulBloch', WHERE WHAT IT READS IS OF BULK AT MOST 1048576: true; the input reads as it did. -/
def fnExactMulBlochUptoRow : OpenClaim := { program := "ytnjckeadcbfogaa", sum := "e6415f5ff0ec87d9a1cd19cf851ea537f30f37865d5295947823beaaaaf88499", func := "loop.example/g00864/laws.FnExactMulBloch", spec := "fnExactMulBloch", apart := false, narrowed := true }
def FnExactMulBlochUptoSaid : Prop := fnExactMulBlochUptoRow.holds Try.pinned (OpenSpec.upto fnExactMulBlochSpec)

/-- 'laws.FnExactTransposeBloch', WHERE WHAT IT READS IS OF BULK AT MOST 1048576: true; the input reads as it did. -/
def fnExactTransposeBlochUptoRow : OpenClaim := { program := "ytnjckeadcbfogaa", sum := "e6415f5ff0ec87d9a1cd19cf851ea537f30f37865d5295947823beaaaaf88499", func := "loop.example/g00864/laws.FnExactTransposeBloch", spec := "fnExactTransposeBloch", apart := false, narrowed := true }
def FnExactTransposeBlochUptoSaid : Prop := fnExactTransposeBlochUptoRow.holds Try.pinned (OpenSpec.upto fnExactTransposeBlochSpec)

/-- 'laws.FnExactBlochExp', WHERE WHAT IT READS IS OF BULK AT MOST 1048576: true; the input reads as it did. -/
def fnExactBlochExpUptoRow : OpenClaim := { program := "ytnjckeadcbfogaa", sum := "e6415f5ff0ec87d9a1cd19cf851ea537f30f37865d5295947823beaaaaf88499", func := "loop.example/g00864/laws.FnExactBlochExp", spec := "fnExactBlochExp", apart := false, narrowed := true }
def FnExactBlochExpUptoSaid : Prop := fnExactBlochExpUptoRow.holds Try.pinned (OpenSpec.upto fnExactBlochExpSpec)

/-- 'laws.FnExactParityOf', WHERE WHAT IT READS IS OF BULK AT MOST 1048576: true; the input reads as it did. -/
def fnExactParityOfUptoRow : OpenClaim := { program := "ytnjckeadcbfogaa", sum := "e6415f5ff0ec87d9a1cd19cf851ea537f30f37865d5295947823beaaaaf88499", func := "loop.example/g00864/laws.FnExactParityOf", spec := "fnExactParityOf", apart := false, narrowed := true }
def FnExactParityOfUptoSaid : Prop := fnExactParityOfUptoRow.holds Try.pinned (OpenSpec.upto fnExactParityOfSpec)

/-- 'laws.FnExactCliffordWord', WHERE WHAT IT READS IS OF BULK AT MOST 1048576: true; the input reads as it did. -/
def fnExactCliffordWordUptoRow : OpenClaim := { program := "ytnjckeadcbfogaa", sum := "e6415f5ff0ec87d9a1cd19cf851ea537f30f37865d5295947823beaaaaf88499", func := "loop.example/g00864/laws.FnExactCliffordWord", spec := "fnExactCliffordWord", unfollowed := true, recurses := true, apart := false, narrowed := true }
def FnExactCliffordWordUptoSaid : Prop := fnExactCliffordWordUptoRow.holds Try.pinned (OpenSpec.upto fnExactCliffordWordSpec)

/-- 'laws.FnExactCliffordIndex', WHERE WHAT IT READS IS OF BULK AT MOST 1048576: true; the input reads as it did. -/
def fnExactCliffordIndexUptoRow : OpenClaim := { program := "ytnjckeadcbfogaa", sum := "e6415f5ff0ec87d9a1cd19cf851ea537f30f37865d5295947823beaaaaf88499", func := "loop.example/g00864/laws.FnExactCliffordIndex", spec := "fnExactCliffordIndex", unfollowed := true, recurses := true, apart := false, narrowed := true }
def FnExactCliffordIndexUptoSaid : Prop := fnExactCliffordIndexUptoRow.holds Try.pinned (OpenSpec.upto fnExactCliffordIndexSpec)

end Rows
end Go.Proofs.Ytnjckeadcbfogaa
