/-
  No cell of these rows narrows 'for every input' (looked for: loops, veiled, ifaces, maps, wideKeys, modest, calm, conditions, laid).
  DERIVED. THE GIVEN ROWS OF THIS SEAT. 16 by the template 'for every input the law returns true; each argument reads behind the call as it read before'; 0 by the template 'total and deterministic' (their statements: YtfbffncbdddemaaTotals.lean).
  GIVEN WITH THE SEED: the statements are not yours to turn. If you find one false, say at which input.
  Laid BY PROGRAM, IN A SANDBOX (cutbox-rows.mjs): the forced cells as the released guide's own fill.sh prints them over the translation 36195aaa1194b720… (all of the seat's roots in one cut). By AI agents, Wed Nov 11 2026. No macro, syntax, notation, axiom, sorry.
-/
import Derived.Test.YtfbffncbdddemaaChecked
import GoSem.Claim
import GoSem.ClaimJoined
import GoSem.ClaimMapViews
import Derived.JoinedTies
import Derived.KernelRfl
namespace Go.Proofs.Ytfbffncbdddemaa
/- THE CELL 'sum', in the pinned program and in every row, IS THE sha256 OF THE DUMP (.gsa) THAT YtfbffncbdddemaaProg.lean LOADS. Nothing in Lean hashes anything: it is a label: what it is worth is what the hold of that sum in a sandbox is worth. -/
noncomputable def Try.pinned : Pinned := { name := "ytfbffncbdddemaa", sum := "36195aaa1194b720fbc242e59ee41b1520cdec38dadfa6ccbb8dc926b24df4fd", checked := Try.checked }
namespace Rows
def none {H : Type} : Left H := { results := [], args := [] }

/-- 'laws.FnMatrices': WHATEVER THE INPUT: true; the input reads as it did. -/
def fnMatricesSpec : ChangeSpec := { name := "fnMatrices", fn := fun _ => fun
  | [d1, d2] => { results := [.lit (.bool true)], args := [d1, d2] }
  | _ => none }
def fnMatricesRow : OpenClaim := { program := "ytfbffncbdddemaa", sum := "36195aaa1194b720fbc242e59ee41b1520cdec38dadfa6ccbb8dc926b24df4fd", func := "loop.example/g00864/laws.FnMatrices", spec := "fnMatrices", apart := false }
def FnMatricesSaid : Prop := fnMatricesRow.holds Try.pinned (OpenSpec.ofChange fnMatricesSpec)

/-- ITS FALSE NEIGHBOUR: 'it returns false'. Refute it at one input. -/
def fnMatricesWrong : ChangeSpec := { name := "fnMatrices", fn := fun _ => fun
  | [d1, d2] => { results := [.lit (.bool false)], args := [d1, d2] }
  | _ => none }
def FnMatricesWrongFalsely : Prop := fnMatricesRow.holds Try.pinned (OpenSpec.ofChange fnMatricesWrong)

/-- 'laws.FnCircuits': WHATEVER THE INPUT: true; the input reads as it did. -/
def fnCircuitsSpec : ChangeSpec := { name := "fnCircuits", fn := fun _ => fun
  | [d1, d2] => { results := [.lit (.bool true)], args := [d1, d2] }
  | _ => none }
def fnCircuitsRow : OpenClaim := { program := "ytfbffncbdddemaa", sum := "36195aaa1194b720fbc242e59ee41b1520cdec38dadfa6ccbb8dc926b24df4fd", func := "loop.example/g00864/laws.FnCircuits", spec := "fnCircuits", unfollowed := true, recurses := true, apart := false }
def FnCircuitsSaid : Prop := fnCircuitsRow.holds Try.pinned (OpenSpec.ofChange fnCircuitsSpec)

/-- ITS FALSE NEIGHBOUR: 'it returns false'. Refute it at one input. -/
def fnCircuitsWrong : ChangeSpec := { name := "fnCircuits", fn := fun _ => fun
  | [d1, d2] => { results := [.lit (.bool false)], args := [d1, d2] }
  | _ => none }
def FnCircuitsWrongFalsely : Prop := fnCircuitsRow.holds Try.pinned (OpenSpec.ofChange fnCircuitsWrong)

/-- 'laws.FnExactMulMatrix': WHATEVER THE INPUT: true; the input reads as it did. -/
def fnExactMulMatrixSpec : ChangeSpec := { name := "fnExactMulMatrix", fn := fun _ => fun
  | [d1, d2] => { results := [.lit (.bool true)], args := [d1, d2] }
  | _ => none }
def fnExactMulMatrixRow : OpenClaim := { program := "ytfbffncbdddemaa", sum := "36195aaa1194b720fbc242e59ee41b1520cdec38dadfa6ccbb8dc926b24df4fd", func := "loop.example/g00864/laws.FnExactMulMatrix", spec := "fnExactMulMatrix", apart := false }
def FnExactMulMatrixSaid : Prop := fnExactMulMatrixRow.holds Try.pinned (OpenSpec.ofChange fnExactMulMatrixSpec)

/-- ITS FALSE NEIGHBOUR: 'it returns false'. Refute it at one input. -/
def fnExactMulMatrixWrong : ChangeSpec := { name := "fnExactMulMatrix", fn := fun _ => fun
  | [d1, d2] => { results := [.lit (.bool false)], args := [d1, d2] }
  | _ => none }
def FnExactMulMatrixWrongFalsely : Prop := fnExactMulMatrixRow.holds Try.pinned (OpenSpec.ofChange fnExactMulMatrixWrong)

/-- 'laws.FnExactScaleMatrix': WHATEVER THE INPUT: true; the input reads as it did. -/
def fnExactScaleMatrixSpec : ChangeSpec := { name := "fnExactScaleMatrix", fn := fun _ => fun
  | [d1, d2] => { results := [.lit (.bool true)], args := [d1, d2] }
  | _ => none }
def fnExactScaleMatrixRow : OpenClaim := { program := "ytfbffncbdddemaa", sum := "36195aaa1194b720fbc242e59ee41b1520cdec38dadfa6ccbb8dc926b24df4fd", func := "loop.example/g00864/laws.FnExactScaleMatrix", spec := "fnExactScaleMatrix", apart := false }
def FnExactScaleMatrixSaid : Prop := fnExactScaleMatrixRow.holds Try.pinned (OpenSpec.ofChange fnExactScaleMatrixSpec)

/-- ITS FALSE NEIGHBOUR: 'it returns false'. Refute it at one input. -/
def fnExactScaleMatrixWrong : ChangeSpec := { name := "fnExactScaleMatrix", fn := fun _ => fun
  | [d1, d2] => { results := [.lit (.bool false)], args := [d1, d2] }
  | _ => none }
def FnExactScaleMatrixWrongFalsely : Prop := fnExactScaleMatrixRow.holds Try.pinned (OpenSpec.ofChange fnExactScaleMatrixWrong)

/-- 'laws.FnExactKron': WHATEVER THE INPUT: true; the input reads as it did. -/
def fnExactKronSpec : ChangeSpec := { name := "fnExactKron", fn := fun _ => fun
  | [d1, d2] => { results := [.lit (.bool true)], args := [d1, d2] }
  | _ => none }
def fnExactKronRow : OpenClaim := { program := "ytfbffncbdddemaa", sum := "36195aaa1194b720fbc242e59ee41b1520cdec38dadfa6ccbb8dc926b24df4fd", func := "loop.example/g00864/laws.FnExactKron", spec := "fnExactKron", apart := false }
def FnExactKronSaid : Prop := fnExactKronRow.holds Try.pinned (OpenSpec.ofChange fnExactKronSpec)

/-- ITS FALSE NEIGHBOUR: 'it returns false'. Refute it at one input. -/
def fnExactKronWrong : ChangeSpec := { name := "fnExactKron", fn := fun _ => fun
  | [d1, d2] => { results := [.lit (.bool false)], args := [d1, d2] }
  | _ => none }
def FnExactKronWrongFalsely : Prop := fnExactKronRow.holds Try.pinned (OpenSpec.ofChange fnExactKronWrong)

/-- 'laws.FnExactIsUnitary': WHATEVER THE INPUT: true; the input reads as it did. -/
def fnExactIsUnitarySpec : ChangeSpec := { name := "fnExactIsUnitary", fn := fun _ => fun
  | [d] => { results := [.lit (.bool true)], args := [d] }
  | _ => none }
def fnExactIsUnitaryRow : OpenClaim := { program := "ytfbffncbdddemaa", sum := "36195aaa1194b720fbc242e59ee41b1520cdec38dadfa6ccbb8dc926b24df4fd", func := "loop.example/g00864/laws.FnExactIsUnitary", spec := "fnExactIsUnitary", apart := false }
def FnExactIsUnitarySaid : Prop := fnExactIsUnitaryRow.holds Try.pinned (OpenSpec.ofChange fnExactIsUnitarySpec)

/-- ITS FALSE NEIGHBOUR: 'it returns false'. Refute it at one input. -/
def fnExactIsUnitaryWrong : ChangeSpec := { name := "fnExactIsUnitary", fn := fun _ => fun
  | [d] => { results := [.lit (.bool false)], args := [d] }
  | _ => none }
def FnExactIsUnitaryWrongFalsely : Prop := fnExactIsUnitaryRow.holds Try.pinned (OpenSpec.ofChange fnExactIsUnitaryWrong)

/-- 'laws.FnExactIsValidGate': WHATEVER THE INPUT: true; the input reads as it did. -/
def fnExactIsValidGateSpec : ChangeSpec := { name := "fnExactIsValidGate", fn := fun _ => fun
  | [d1, d2] => { results := [.lit (.bool true)], args := [d1, d2] }
  | _ => none }
def fnExactIsValidGateRow : OpenClaim := { program := "ytfbffncbdddemaa", sum := "36195aaa1194b720fbc242e59ee41b1520cdec38dadfa6ccbb8dc926b24df4fd", func := "loop.example/g00864/laws.FnExactIsValidGate", spec := "fnExactIsValidGate", apart := false }
def FnExactIsValidGateSaid : Prop := fnExactIsValidGateRow.holds Try.pinned (OpenSpec.ofChange fnExactIsValidGateSpec)

/-- ITS FALSE NEIGHBOUR: 'it returns false'. Refute it at one input. -/
def fnExactIsValidGateWrong : ChangeSpec := { name := "fnExactIsValidGate", fn := fun _ => fun
  | [d1, d2] => { results := [.lit (.bool false)], args := [d1, d2] }
  | _ => none }
def FnExactIsValidGateWrongFalsely : Prop := fnExactIsValidGateRow.holds Try.pinned (OpenSpec.ofChange fnExactIsValidGateWrong)

/-- 'laws.FnExactIsValidCircuit': WHATEVER THE INPUT: true; the input reads as it did. -/
def fnExactIsValidCircuitSpec : ChangeSpec := { name := "fnExactIsValidCircuit", fn := fun _ => fun
  | [d] => { results := [.lit (.bool true)], args := [d] }
  | _ => none }
def fnExactIsValidCircuitRow : OpenClaim := { program := "ytfbffncbdddemaa", sum := "36195aaa1194b720fbc242e59ee41b1520cdec38dadfa6ccbb8dc926b24df4fd", func := "loop.example/g00864/laws.FnExactIsValidCircuit", spec := "fnExactIsValidCircuit", apart := false }
def FnExactIsValidCircuitSaid : Prop := fnExactIsValidCircuitRow.holds Try.pinned (OpenSpec.ofChange fnExactIsValidCircuitSpec)

/-- ITS FALSE NEIGHBOUR: 'it returns false'. Refute it at one input. -/
def fnExactIsValidCircuitWrong : ChangeSpec := { name := "fnExactIsValidCircuit", fn := fun _ => fun
  | [d] => { results := [.lit (.bool false)], args := [d] }
  | _ => none }
def FnExactIsValidCircuitWrongFalsely : Prop := fnExactIsValidCircuitRow.holds Try.pinned (OpenSpec.ofChange fnExactIsValidCircuitWrong)

/-- 'laws.FnExactEqualCircuits': WHATEVER THE INPUT: true; the input reads as it did. -/
def fnExactEqualCircuitsSpec : ChangeSpec := { name := "fnExactEqualCircuits", fn := fun _ => fun
  | [d1, d2] => { results := [.lit (.bool true)], args := [d1, d2] }
  | _ => none }
def fnExactEqualCircuitsRow : OpenClaim := { program := "ytfbffncbdddemaa", sum := "36195aaa1194b720fbc242e59ee41b1520cdec38dadfa6ccbb8dc926b24df4fd", func := "loop.example/g00864/laws.FnExactEqualCircuits", spec := "fnExactEqualCircuits", apart := false }
def FnExactEqualCircuitsSaid : Prop := fnExactEqualCircuitsRow.holds Try.pinned (OpenSpec.ofChange fnExactEqualCircuitsSpec)

/-- ITS FALSE NEIGHBOUR: 'it returns false'. Refute it at one input. -/
def fnExactEqualCircuitsWrong : ChangeSpec := { name := "fnExactEqualCircuits", fn := fun _ => fun
  | [d1, d2] => { results := [.lit (.bool false)], args := [d1, d2] }
  | _ => none }
def FnExactEqualCircuitsWrongFalsely : Prop := fnExactEqualCircuitsRow.holds Try.pinned (OpenSpec.ofChange fnExactEqualCircuitsWrong)

/-- 'laws.FnExactInverseGate': WHATEVER THE INPUT: true; the input reads as it did. -/
def fnExactInverseGateSpec : ChangeSpec := { name := "fnExactInverseGate", fn := fun _ => fun
  | [d] => { results := [.lit (.bool true)], args := [d] }
  | _ => none }
def fnExactInverseGateRow : OpenClaim := { program := "ytfbffncbdddemaa", sum := "36195aaa1194b720fbc242e59ee41b1520cdec38dadfa6ccbb8dc926b24df4fd", func := "loop.example/g00864/laws.FnExactInverseGate", spec := "fnExactInverseGate", apart := false }
def FnExactInverseGateSaid : Prop := fnExactInverseGateRow.holds Try.pinned (OpenSpec.ofChange fnExactInverseGateSpec)

/-- ITS FALSE NEIGHBOUR: 'it returns false'. Refute it at one input. -/
def fnExactInverseGateWrong : ChangeSpec := { name := "fnExactInverseGate", fn := fun _ => fun
  | [d] => { results := [.lit (.bool false)], args := [d] }
  | _ => none }
def FnExactInverseGateWrongFalsely : Prop := fnExactInverseGateRow.holds Try.pinned (OpenSpec.ofChange fnExactInverseGateWrong)

/-- 'laws.FnExactInverse': WHATEVER THE INPUT: true; the input reads as it did. -/
def fnExactInverseSpec : ChangeSpec := { name := "fnExactInverse", fn := fun _ => fun
  | [d] => { results := [.lit (.bool true)], args := [d] }
  | _ => none }
def fnExactInverseRow : OpenClaim := { program := "ytfbffncbdddemaa", sum := "36195aaa1194b720fbc242e59ee41b1520cdec38dadfa6ccbb8dc926b24df4fd", func := "loop.example/g00864/laws.FnExactInverse", spec := "fnExactInverse", apart := false }
def FnExactInverseSaid : Prop := fnExactInverseRow.holds Try.pinned (OpenSpec.ofChange fnExactInverseSpec)

/-- ITS FALSE NEIGHBOUR: 'it returns false'. Refute it at one input. -/
def fnExactInverseWrong : ChangeSpec := { name := "fnExactInverse", fn := fun _ => fun
  | [d] => { results := [.lit (.bool false)], args := [d] }
  | _ => none }
def FnExactInverseWrongFalsely : Prop := fnExactInverseRow.holds Try.pinned (OpenSpec.ofChange fnExactInverseWrong)

/-- 'laws.FnExactConcat': WHATEVER THE INPUT: true; the input reads as it did. -/
def fnExactConcatSpec : ChangeSpec := { name := "fnExactConcat", fn := fun _ => fun
  | [d1, d2] => { results := [.lit (.bool true)], args := [d1, d2] }
  | _ => none }
def fnExactConcatRow : OpenClaim := { program := "ytfbffncbdddemaa", sum := "36195aaa1194b720fbc242e59ee41b1520cdec38dadfa6ccbb8dc926b24df4fd", func := "loop.example/g00864/laws.FnExactConcat", spec := "fnExactConcat", apart := false }
def FnExactConcatSaid : Prop := fnExactConcatRow.holds Try.pinned (OpenSpec.ofChange fnExactConcatSpec)

/-- ITS FALSE NEIGHBOUR: 'it returns false'. Refute it at one input. -/
def fnExactConcatWrong : ChangeSpec := { name := "fnExactConcat", fn := fun _ => fun
  | [d1, d2] => { results := [.lit (.bool false)], args := [d1, d2] }
  | _ => none }
def FnExactConcatWrongFalsely : Prop := fnExactConcatRow.holds Try.pinned (OpenSpec.ofChange fnExactConcatWrong)

/-- 'laws.FnExactCountT': WHATEVER THE INPUT: true; the input reads as it did. -/
def fnExactCountTSpec : ChangeSpec := { name := "fnExactCountT", fn := fun _ => fun
  | [d] => { results := [.lit (.bool true)], args := [d] }
  | _ => none }
def fnExactCountTRow : OpenClaim := { program := "ytfbffncbdddemaa", sum := "36195aaa1194b720fbc242e59ee41b1520cdec38dadfa6ccbb8dc926b24df4fd", func := "loop.example/g00864/laws.FnExactCountT", spec := "fnExactCountT", unfollowed := true, recurses := true, apart := false }
def FnExactCountTSaid : Prop := fnExactCountTRow.holds Try.pinned (OpenSpec.ofChange fnExactCountTSpec)

/-- ITS FALSE NEIGHBOUR: 'it returns false'. Refute it at one input. -/
def fnExactCountTWrong : ChangeSpec := { name := "fnExactCountT", fn := fun _ => fun
  | [d] => { results := [.lit (.bool false)], args := [d] }
  | _ => none }
def FnExactCountTWrongFalsely : Prop := fnExactCountTRow.holds Try.pinned (OpenSpec.ofChange fnExactCountTWrong)

/-- 'laws.FnExactCountTwo': WHATEVER THE INPUT: true; the input reads as it did. -/
def fnExactCountTwoSpec : ChangeSpec := { name := "fnExactCountTwo", fn := fun _ => fun
  | [d] => { results := [.lit (.bool true)], args := [d] }
  | _ => none }
def fnExactCountTwoRow : OpenClaim := { program := "ytfbffncbdddemaa", sum := "36195aaa1194b720fbc242e59ee41b1520cdec38dadfa6ccbb8dc926b24df4fd", func := "loop.example/g00864/laws.FnExactCountTwo", spec := "fnExactCountTwo", unfollowed := true, recurses := true, apart := false }
def FnExactCountTwoSaid : Prop := fnExactCountTwoRow.holds Try.pinned (OpenSpec.ofChange fnExactCountTwoSpec)

/-- ITS FALSE NEIGHBOUR: 'it returns false'. Refute it at one input. -/
def fnExactCountTwoWrong : ChangeSpec := { name := "fnExactCountTwo", fn := fun _ => fun
  | [d] => { results := [.lit (.bool false)], args := [d] }
  | _ => none }
def FnExactCountTwoWrongFalsely : Prop := fnExactCountTwoRow.holds Try.pinned (OpenSpec.ofChange fnExactCountTwoWrong)

/-- 'laws.FnExactIsClifford': WHATEVER THE INPUT: true; the input reads as it did. -/
def fnExactIsCliffordSpec : ChangeSpec := { name := "fnExactIsClifford", fn := fun _ => fun
  | [d] => { results := [.lit (.bool true)], args := [d] }
  | _ => none }
def fnExactIsCliffordRow : OpenClaim := { program := "ytfbffncbdddemaa", sum := "36195aaa1194b720fbc242e59ee41b1520cdec38dadfa6ccbb8dc926b24df4fd", func := "loop.example/g00864/laws.FnExactIsClifford", spec := "fnExactIsClifford", unfollowed := true, recurses := true, apart := false }
def FnExactIsCliffordSaid : Prop := fnExactIsCliffordRow.holds Try.pinned (OpenSpec.ofChange fnExactIsCliffordSpec)

/-- ITS FALSE NEIGHBOUR: 'it returns false'. Refute it at one input. -/
def fnExactIsCliffordWrong : ChangeSpec := { name := "fnExactIsClifford", fn := fun _ => fun
  | [d] => { results := [.lit (.bool false)], args := [d] }
  | _ => none }
def FnExactIsCliffordWrongFalsely : Prop := fnExactIsCliffordRow.holds Try.pinned (OpenSpec.ofChange fnExactIsCliffordWrong)

/-- 'laws.FnExactMapQubits': WHATEVER THE INPUT: true; the input reads as it did. -/
def fnExactMapQubitsSpec : ChangeSpec := { name := "fnExactMapQubits", fn := fun _ => fun
  | [d1, d2, d3] => { results := [.lit (.bool true)], args := [d1, d2, d3] }
  | _ => none }
def fnExactMapQubitsRow : OpenClaim := { program := "ytfbffncbdddemaa", sum := "36195aaa1194b720fbc242e59ee41b1520cdec38dadfa6ccbb8dc926b24df4fd", func := "loop.example/g00864/laws.FnExactMapQubits", spec := "fnExactMapQubits", apart := false }
def FnExactMapQubitsSaid : Prop := fnExactMapQubitsRow.holds Try.pinned (OpenSpec.ofChange fnExactMapQubitsSpec)

/-- ITS FALSE NEIGHBOUR: 'it returns false'. Refute it at one input. -/
def fnExactMapQubitsWrong : ChangeSpec := { name := "fnExactMapQubits", fn := fun _ => fun
  | [d1, d2, d3] => { results := [.lit (.bool false)], args := [d1, d2, d3] }
  | _ => none }
def FnExactMapQubitsWrongFalsely : Prop := fnExactMapQubitsRow.holds Try.pinned (OpenSpec.ofChange fnExactMapQubitsWrong)

/- THE SECOND FORM. 'bulk': how many values and letters a reading holds, each counted each time it is reached (what is shared counts as often as it is met; a slice's spare places count too). A statement '..UptoSaid' is the law's where the arguments, and the package variables that the reading takes, are together of bulk at most 1048576: NARROWER than '..Said'. Prove '..Said' where nothing that the law and all that it calls make is longer than what came in: it says more and counts as full. Else prove '..UptoSaid'. A law counts once. -/
mutual
def uptoBulk {H : Type} : DataW H → Nat
  | .lit (.string bytes) => bytes.length + 1
  | .lit _ => 1
  | .nil => 1
  | .ptr d => uptoBulk d + 1
  | .slice elems spare => uptoBulkAll elems + uptoBulkAll spare + 1
  | .agg parts => uptoBulkAll parts + 1
  | .iface _ d => uptoBulk d + 1
  | .map entries => uptoBulkEntries entries + 1
  | .held _ => 1
def uptoBulkAll {H : Type} : List (DataW H) → Nat
  | [] => 0
  | d :: r => uptoBulk d + uptoBulkAll r
def uptoBulkEntries {H : Type} : List (Lit × DataW H) → Nat
  | [] => 0
  | x :: r => uptoBulkEntry x + uptoBulkEntries r
def uptoBulkEntry {H : Type} : Lit × DataW H → Nat
  | (.string bytes, d) => bytes.length + uptoBulk d + 1
  | (_, d) => uptoBulk d + 1
 end
def uptoSmall : (H : Type) → List (DataW H) → Bool := fun _ ds => decide (uptoBulkAll ds ≤ 1048576)
def OpenSpec.upto (s : _root_.Go.ChangeSpec) : _root_.Go.OpenSpec := { _root_.Go.OpenSpec.ofChange s with cond := some uptoSmall }

/-- 'laws.FnMatrices', WHERE WHAT IT READS IS OF BULK AT MOST 1048576: true; the input reads as it did. -/
def fnMatricesUptoRow : OpenClaim := { program := "ytfbffncbdddemaa", sum := "36195aaa1194b720fbc242e59ee41b1520cdec38dadfa6ccbb8dc926b24df4fd", func := "loop.example/g00864/laws.FnMatrices", spec := "fnMatrices", apart := false, narrowed := true }
def FnMatricesUptoSaid : Prop := fnMatricesUptoRow.holds Try.pinned (OpenSpec.upto fnMatricesSpec)

/-- 'laws.FnCircuits', WHERE WHAT IT READS IS OF BULK AT MOST 1048576: true; the input reads as it did. -/
def fnCircuitsUptoRow : OpenClaim := { program := "ytfbffncbdddemaa", sum := "36195aaa1194b720fbc242e59ee41b1520cdec38dadfa6ccbb8dc926b24df4fd", func := "loop.example/g00864/laws.FnCircuits", spec := "fnCircuits", unfollowed := true, recurses := true, apart := false, narrowed := true }
def FnCircuitsUptoSaid : Prop := fnCircuitsUptoRow.holds Try.pinned (OpenSpec.upto fnCircuitsSpec)

/-- 'laws.FnExactMulMatrix', WHERE WHAT IT READS IS OF BULK AT MOST 1048576: true; the input reads as it did. -/
def fnExactMulMatrixUptoRow : OpenClaim := { program := "ytfbffncbdddemaa", sum := "36195aaa1194b720fbc242e59ee41b1520cdec38dadfa6ccbb8dc926b24df4fd", func := "loop.example/g00864/laws.FnExactMulMatrix", spec := "fnExactMulMatrix", apart := false, narrowed := true }
def FnExactMulMatrixUptoSaid : Prop := fnExactMulMatrixUptoRow.holds Try.pinned (OpenSpec.upto fnExactMulMatrixSpec)

/-- 'laws.FnExactScaleMatrix', WHERE WHAT IT READS IS OF BULK AT MOST 1048576: true; the input reads as it did. -/
def fnExactScaleMatrixUptoRow : OpenClaim := { program := "ytfbffncbdddemaa", sum := "36195aaa1194b720fbc242e59ee41b1520cdec38dadfa6ccbb8dc926b24df4fd", func := "loop.example/g00864/laws.FnExactScaleMatrix", spec := "fnExactScaleMatrix", apart := false, narrowed := true }
def FnExactScaleMatrixUptoSaid : Prop := fnExactScaleMatrixUptoRow.holds Try.pinned (OpenSpec.upto fnExactScaleMatrixSpec)

/-- 'laws.FnExactKron', WHERE WHAT IT READS IS OF BULK AT MOST 1048576: true; the input reads as it did. -/
def fnExactKronUptoRow : OpenClaim := { program := "ytfbffncbdddemaa", sum := "36195aaa1194b720fbc242e59ee41b1520cdec38dadfa6ccbb8dc926b24df4fd", func := "loop.example/g00864/laws.FnExactKron", spec := "fnExactKron", apart := false, narrowed := true }
def FnExactKronUptoSaid : Prop := fnExactKronUptoRow.holds Try.pinned (OpenSpec.upto fnExactKronSpec)

/-- 'laws.FnExactIsUnitary', WHERE WHAT IT READS IS OF BULK AT MOST 1048576: true; the input reads as it did. -/
def fnExactIsUnitaryUptoRow : OpenClaim := { program := "ytfbffncbdddemaa", sum := "36195aaa1194b720fbc242e59ee41b1520cdec38dadfa6ccbb8dc926b24df4fd", func := "loop.example/g00864/laws.FnExactIsUnitary", spec := "fnExactIsUnitary", apart := false, narrowed := true }
def FnExactIsUnitaryUptoSaid : Prop := fnExactIsUnitaryUptoRow.holds Try.pinned (OpenSpec.upto fnExactIsUnitarySpec)

/-- 'laws.FnExactIsValidGate', WHERE WHAT IT READS IS OF BULK AT MOST 1048576: true; the input reads as it did. -/
def fnExactIsValidGateUptoRow : OpenClaim := { program := "ytfbffncbdddemaa", sum := "36195aaa1194b720fbc242e59ee41b1520cdec38dadfa6ccbb8dc926b24df4fd", func := "loop.example/g00864/laws.FnExactIsValidGate", spec := "fnExactIsValidGate", apart := false, narrowed := true }
def FnExactIsValidGateUptoSaid : Prop := fnExactIsValidGateUptoRow.holds Try.pinned (OpenSpec.upto fnExactIsValidGateSpec)

/-- 'laws.FnExactIsValidCircuit', WHERE WHAT IT READS IS OF BULK AT MOST 1048576: true; the input reads as it did. -/
def fnExactIsValidCircuitUptoRow : OpenClaim := { program := "ytfbffncbdddemaa", sum := "36195aaa1194b720fbc242e59ee41b1520cdec38dadfa6ccbb8dc926b24df4fd", func := "loop.example/g00864/laws.FnExactIsValidCircuit", spec := "fnExactIsValidCircuit", apart := false, narrowed := true }
def FnExactIsValidCircuitUptoSaid : Prop := fnExactIsValidCircuitUptoRow.holds Try.pinned (OpenSpec.upto fnExactIsValidCircuitSpec)

/-- 'laws.FnExactEqualCircuits', WHERE WHAT IT READS IS OF BULK AT MOST 1048576: true; the input reads as it did. -/
def fnExactEqualCircuitsUptoRow : OpenClaim := { program := "ytfbffncbdddemaa", sum := "36195aaa1194b720fbc242e59ee41b1520cdec38dadfa6ccbb8dc926b24df4fd", func := "loop.example/g00864/laws.FnExactEqualCircuits", spec := "fnExactEqualCircuits", apart := false, narrowed := true }
def FnExactEqualCircuitsUptoSaid : Prop := fnExactEqualCircuitsUptoRow.holds Try.pinned (OpenSpec.upto fnExactEqualCircuitsSpec)

/-- 'laws.FnExactInverseGate', WHERE WHAT IT READS IS OF BULK AT MOST 1048576: true; the input reads as it did. -/
def fnExactInverseGateUptoRow : OpenClaim := { program := "ytfbffncbdddemaa", sum := "36195aaa1194b720fbc242e59ee41b1520cdec38dadfa6ccbb8dc926b24df4fd", func := "loop.example/g00864/laws.FnExactInverseGate", spec := "fnExactInverseGate", apart := false, narrowed := true }
def FnExactInverseGateUptoSaid : Prop := fnExactInverseGateUptoRow.holds Try.pinned (OpenSpec.upto fnExactInverseGateSpec)

/-- 'laws.FnExactInverse', WHERE WHAT IT READS IS OF BULK AT MOST 1048576: true; the input reads as it did. -/
def fnExactInverseUptoRow : OpenClaim := { program := "ytfbffncbdddemaa", sum := "36195aaa1194b720fbc242e59ee41b1520cdec38dadfa6ccbb8dc926b24df4fd", func := "loop.example/g00864/laws.FnExactInverse", spec := "fnExactInverse", apart := false, narrowed := true }
def FnExactInverseUptoSaid : Prop := fnExactInverseUptoRow.holds Try.pinned (OpenSpec.upto fnExactInverseSpec)

/-- 'laws.FnExactConcat', WHERE WHAT IT READS IS OF BULK AT MOST 1048576: true; the input reads as it did. -/
def fnExactConcatUptoRow : OpenClaim := { program := "ytfbffncbdddemaa", sum := "36195aaa1194b720fbc242e59ee41b1520cdec38dadfa6ccbb8dc926b24df4fd", func := "loop.example/g00864/laws.FnExactConcat", spec := "fnExactConcat", apart := false, narrowed := true }
def FnExactConcatUptoSaid : Prop := fnExactConcatUptoRow.holds Try.pinned (OpenSpec.upto fnExactConcatSpec)

/-- 'laws.FnExactCountT', WHERE WHAT IT READS IS OF BULK AT MOST 1048576: true; the input reads as it did. -/
def fnExactCountTUptoRow : OpenClaim := { program := "ytfbffncbdddemaa", sum := "36195aaa1194b720fbc242e59ee41b1520cdec38dadfa6ccbb8dc926b24df4fd", func := "loop.example/g00864/laws.FnExactCountT", spec := "fnExactCountT", unfollowed := true, recurses := true, apart := false, narrowed := true }
def FnExactCountTUptoSaid : Prop := fnExactCountTUptoRow.holds Try.pinned (OpenSpec.upto fnExactCountTSpec)

/-- 'laws.FnExactCountTwo', WHERE WHAT IT READS IS OF BULK AT MOST 1048576: true; the input reads as it did. -/
def fnExactCountTwoUptoRow : OpenClaim := { program := "ytfbffncbdddemaa", sum := "36195aaa1194b720fbc242e59ee41b1520cdec38dadfa6ccbb8dc926b24df4fd", func := "loop.example/g00864/laws.FnExactCountTwo", spec := "fnExactCountTwo", unfollowed := true, recurses := true, apart := false, narrowed := true }
def FnExactCountTwoUptoSaid : Prop := fnExactCountTwoUptoRow.holds Try.pinned (OpenSpec.upto fnExactCountTwoSpec)

/-- 'laws.FnExactIsClifford', WHERE WHAT IT READS IS OF BULK AT MOST 1048576: true; the input reads as it did. -/
def fnExactIsCliffordUptoRow : OpenClaim := { program := "ytfbffncbdddemaa", sum := "36195aaa1194b720fbc242e59ee41b1520cdec38dadfa6ccbb8dc926b24df4fd", func := "loop.example/g00864/laws.FnExactIsClifford", spec := "fnExactIsClifford", unfollowed := true, recurses := true, apart := false, narrowed := true }
def FnExactIsCliffordUptoSaid : Prop := fnExactIsCliffordUptoRow.holds Try.pinned (OpenSpec.upto fnExactIsCliffordSpec)

/-- 'laws.FnExactMapQubits', WHERE WHAT IT READS IS OF BULK AT MOST 1048576: true; the input reads as it did. -/
def fnExactMapQubitsUptoRow : OpenClaim := { program := "ytfbffncbdddemaa", sum := "36195aaa1194b720fbc242e59ee41b1520cdec38dadfa6ccbb8dc926b24df4fd", func := "loop.example/g00864/laws.FnExactMapQubits", spec := "fnExactMapQubits", apart := false, narrowed := true }
def FnExactMapQubitsUptoSaid : Prop := fnExactMapQubitsUptoRow.holds Try.pinned (OpenSpec.upto fnExactMapQubitsSpec)

end Rows
end Go.Proofs.Ytfbffncbdddemaa
