/-
  No cell of these rows narrows 'for every input' (looked for: loops, veiled, ifaces, maps, wideKeys, modest, calm, conditions, laid).
  DERIVED. THE GIVEN ROWS OF THIS SEAT. 13 by the template 'for every input the law returns true; each argument reads behind the call as it read before'; 0 by the template 'total and deterministic' (their statements: YtdgcanlbdneelaaTotals.lean).
  GIVEN WITH THE SEED: the statements are not yours to turn. If you find one false, say at which input.
  Laid BY PROGRAM, IN A SANDBOX (cutbox-rows.mjs): the forced cells as the released guide's own fill.sh prints them over the translation 6405ba308c6f61a9… (all of the seat's roots in one cut). By AI agents, Wed Nov 11 2026. No macro, syntax, notation, axiom, sorry.
-/
import Derived.Test.YtdgcanlbdneelaaChecked
import GoSem.Claim
import GoSem.ClaimJoined
import GoSem.ClaimMapViews
import Derived.JoinedTies
import Derived.KernelRfl
namespace Go.Proofs.Ytdgcanlbdneelaa
/- THE CELL 'sum', in the pinned program and in every row, IS THE sha256 OF THE DUMP (.gsa) THAT YtdgcanlbdneelaaProg.lean LOADS. Nothing in Lean hashes anything: it is a label: what it is worth is what the hold of that sum in a sandbox is worth. -/
noncomputable def Try.pinned : Pinned := { name := "ytdgcanlbdneelaa", sum := "6405ba308c6f61a965120ace66d8fb458ea347214bb2b54b44ed0e3962935fbf", checked := Try.checked }
namespace Rows
def none {H : Type} : Left H := { results := [], args := [] }

/-- 'laws.FnMatrices': WHATEVER THE INPUT: true; the input reads as it did. -/
def fnMatricesSpec : ChangeSpec := { name := "fnMatrices", fn := fun _ => fun
  | [d1, d2] => { results := [.lit (.bool true)], args := [d1, d2] }
  | _ => none }
def fnMatricesRow : OpenClaim := { program := "ytdgcanlbdneelaa", sum := "6405ba308c6f61a965120ace66d8fb458ea347214bb2b54b44ed0e3962935fbf", func := "loop.example/g00864/laws.FnMatrices", spec := "fnMatrices", apart := false }
def FnMatricesSaid : Prop := fnMatricesRow.holds Try.pinned (OpenSpec.ofChange fnMatricesSpec)

/-- ITS FALSE NEIGHBOUR: 'it returns false'. Refute it at one input. -/
def fnMatricesWrong : ChangeSpec := { name := "fnMatrices", fn := fun _ => fun
  | [d1, d2] => { results := [.lit (.bool false)], args := [d1, d2] }
  | _ => none }
def FnMatricesWrongFalsely : Prop := fnMatricesRow.holds Try.pinned (OpenSpec.ofChange fnMatricesWrong)

/-- 'laws.FnExactIsValidMatrix': WHATEVER THE INPUT: true; the input reads as it did. -/
def fnExactIsValidMatrixSpec : ChangeSpec := { name := "fnExactIsValidMatrix", fn := fun _ => fun
  | [d] => { results := [.lit (.bool true)], args := [d] }
  | _ => none }
def fnExactIsValidMatrixRow : OpenClaim := { program := "ytdgcanlbdneelaa", sum := "6405ba308c6f61a965120ace66d8fb458ea347214bb2b54b44ed0e3962935fbf", func := "loop.example/g00864/laws.FnExactIsValidMatrix", spec := "fnExactIsValidMatrix", apart := false }
def FnExactIsValidMatrixSaid : Prop := fnExactIsValidMatrixRow.holds Try.pinned (OpenSpec.ofChange fnExactIsValidMatrixSpec)

/-- ITS FALSE NEIGHBOUR: 'it returns false'. Refute it at one input. -/
def fnExactIsValidMatrixWrong : ChangeSpec := { name := "fnExactIsValidMatrix", fn := fun _ => fun
  | [d] => { results := [.lit (.bool false)], args := [d] }
  | _ => none }
def FnExactIsValidMatrixWrongFalsely : Prop := fnExactIsValidMatrixRow.holds Try.pinned (OpenSpec.ofChange fnExactIsValidMatrixWrong)

/-- 'laws.FnExactEqualMatrices': WHATEVER THE INPUT: true; the input reads as it did. -/
def fnExactEqualMatricesSpec : ChangeSpec := { name := "fnExactEqualMatrices", fn := fun _ => fun
  | [d1, d2] => { results := [.lit (.bool true)], args := [d1, d2] }
  | _ => none }
def fnExactEqualMatricesRow : OpenClaim := { program := "ytdgcanlbdneelaa", sum := "6405ba308c6f61a965120ace66d8fb458ea347214bb2b54b44ed0e3962935fbf", func := "loop.example/g00864/laws.FnExactEqualMatrices", spec := "fnExactEqualMatrices", apart := false }
def FnExactEqualMatricesSaid : Prop := fnExactEqualMatricesRow.holds Try.pinned (OpenSpec.ofChange fnExactEqualMatricesSpec)

/-- ITS FALSE NEIGHBOUR: 'it returns false'. Refute it at one input. -/
def fnExactEqualMatricesWrong : ChangeSpec := { name := "fnExactEqualMatrices", fn := fun _ => fun
  | [d1, d2] => { results := [.lit (.bool false)], args := [d1, d2] }
  | _ => none }
def FnExactEqualMatricesWrongFalsely : Prop := fnExactEqualMatricesRow.holds Try.pinned (OpenSpec.ofChange fnExactEqualMatricesWrong)

/-- 'laws.FnExactIdentityMatrix': WHATEVER THE INPUT: true; the input reads as it did. -/
def fnExactIdentityMatrixSpec : ChangeSpec := { name := "fnExactIdentityMatrix", fn := fun _ => fun
  | [d] => { results := [.lit (.bool true)], args := [d] }
  | _ => none }
def fnExactIdentityMatrixRow : OpenClaim := { program := "ytdgcanlbdneelaa", sum := "6405ba308c6f61a965120ace66d8fb458ea347214bb2b54b44ed0e3962935fbf", func := "loop.example/g00864/laws.FnExactIdentityMatrix", spec := "fnExactIdentityMatrix", apart := false }
def FnExactIdentityMatrixSaid : Prop := fnExactIdentityMatrixRow.holds Try.pinned (OpenSpec.ofChange fnExactIdentityMatrixSpec)

/-- ITS FALSE NEIGHBOUR: 'it returns false'. Refute it at one input. -/
def fnExactIdentityMatrixWrong : ChangeSpec := { name := "fnExactIdentityMatrix", fn := fun _ => fun
  | [d] => { results := [.lit (.bool false)], args := [d] }
  | _ => none }
def FnExactIdentityMatrixWrongFalsely : Prop := fnExactIdentityMatrixRow.holds Try.pinned (OpenSpec.ofChange fnExactIdentityMatrixWrong)

/-- 'laws.FnExactMulMatrix': WHATEVER THE INPUT: true; the input reads as it did. -/
def fnExactMulMatrixSpec : ChangeSpec := { name := "fnExactMulMatrix", fn := fun _ => fun
  | [d1, d2] => { results := [.lit (.bool true)], args := [d1, d2] }
  | _ => none }
def fnExactMulMatrixRow : OpenClaim := { program := "ytdgcanlbdneelaa", sum := "6405ba308c6f61a965120ace66d8fb458ea347214bb2b54b44ed0e3962935fbf", func := "loop.example/g00864/laws.FnExactMulMatrix", spec := "fnExactMulMatrix", apart := false }
def FnExactMulMatrixSaid : Prop := fnExactMulMatrixRow.holds Try.pinned (OpenSpec.ofChange fnExactMulMatrixSpec)

/-- ITS FALSE NEIGHBOUR: 'it returns false'. Refute it at one input. -/
def fnExactMulMatrixWrong : ChangeSpec := { name := "fnExactMulMatrix", fn := fun _ => fun
  | [d1, d2] => { results := [.lit (.bool false)], args := [d1, d2] }
  | _ => none }
def FnExactMulMatrixWrongFalsely : Prop := fnExactMulMatrixRow.holds Try.pinned (OpenSpec.ofChange fnExactMulMatrixWrong)

/-- 'laws.FnExactAddMatrix': WHATEVER THE INPUT: true; the input reads as it did. -/
def fnExactAddMatrixSpec : ChangeSpec := { name := "fnExactAddMatrix", fn := fun _ => fun
  | [d1, d2] => { results := [.lit (.bool true)], args := [d1, d2] }
  | _ => none }
def fnExactAddMatrixRow : OpenClaim := { program := "ytdgcanlbdneelaa", sum := "6405ba308c6f61a965120ace66d8fb458ea347214bb2b54b44ed0e3962935fbf", func := "loop.example/g00864/laws.FnExactAddMatrix", spec := "fnExactAddMatrix", apart := false }
def FnExactAddMatrixSaid : Prop := fnExactAddMatrixRow.holds Try.pinned (OpenSpec.ofChange fnExactAddMatrixSpec)

/-- ITS FALSE NEIGHBOUR: 'it returns false'. Refute it at one input. -/
def fnExactAddMatrixWrong : ChangeSpec := { name := "fnExactAddMatrix", fn := fun _ => fun
  | [d1, d2] => { results := [.lit (.bool false)], args := [d1, d2] }
  | _ => none }
def FnExactAddMatrixWrongFalsely : Prop := fnExactAddMatrixRow.holds Try.pinned (OpenSpec.ofChange fnExactAddMatrixWrong)

/-- 'laws.FnExactScaleMatrix': WHATEVER THE INPUT: true; the input reads as it did. -/
def fnExactScaleMatrixSpec : ChangeSpec := { name := "fnExactScaleMatrix", fn := fun _ => fun
  | [d1, d2] => { results := [.lit (.bool true)], args := [d1, d2] }
  | _ => none }
def fnExactScaleMatrixRow : OpenClaim := { program := "ytdgcanlbdneelaa", sum := "6405ba308c6f61a965120ace66d8fb458ea347214bb2b54b44ed0e3962935fbf", func := "loop.example/g00864/laws.FnExactScaleMatrix", spec := "fnExactScaleMatrix", apart := false }
def FnExactScaleMatrixSaid : Prop := fnExactScaleMatrixRow.holds Try.pinned (OpenSpec.ofChange fnExactScaleMatrixSpec)

/-- ITS FALSE NEIGHBOUR: 'it returns false'. Refute it at one input. -/
def fnExactScaleMatrixWrong : ChangeSpec := { name := "fnExactScaleMatrix", fn := fun _ => fun
  | [d1, d2] => { results := [.lit (.bool false)], args := [d1, d2] }
  | _ => none }
def FnExactScaleMatrixWrongFalsely : Prop := fnExactScaleMatrixRow.holds Try.pinned (OpenSpec.ofChange fnExactScaleMatrixWrong)

/-- 'laws.FnExactAdjoint': WHATEVER THE INPUT: true; the input reads as it did. -/
def fnExactAdjointSpec : ChangeSpec := { name := "fnExactAdjoint", fn := fun _ => fun
  | [d] => { results := [.lit (.bool true)], args := [d] }
  | _ => none }
def fnExactAdjointRow : OpenClaim := { program := "ytdgcanlbdneelaa", sum := "6405ba308c6f61a965120ace66d8fb458ea347214bb2b54b44ed0e3962935fbf", func := "loop.example/g00864/laws.FnExactAdjoint", spec := "fnExactAdjoint", apart := false }
def FnExactAdjointSaid : Prop := fnExactAdjointRow.holds Try.pinned (OpenSpec.ofChange fnExactAdjointSpec)

/-- ITS FALSE NEIGHBOUR: 'it returns false'. Refute it at one input. -/
def fnExactAdjointWrong : ChangeSpec := { name := "fnExactAdjoint", fn := fun _ => fun
  | [d] => { results := [.lit (.bool false)], args := [d] }
  | _ => none }
def FnExactAdjointWrongFalsely : Prop := fnExactAdjointRow.holds Try.pinned (OpenSpec.ofChange fnExactAdjointWrong)

/-- 'laws.FnExactKron': WHATEVER THE INPUT: true; the input reads as it did. -/
def fnExactKronSpec : ChangeSpec := { name := "fnExactKron", fn := fun _ => fun
  | [d1, d2] => { results := [.lit (.bool true)], args := [d1, d2] }
  | _ => none }
def fnExactKronRow : OpenClaim := { program := "ytdgcanlbdneelaa", sum := "6405ba308c6f61a965120ace66d8fb458ea347214bb2b54b44ed0e3962935fbf", func := "loop.example/g00864/laws.FnExactKron", spec := "fnExactKron", apart := false }
def FnExactKronSaid : Prop := fnExactKronRow.holds Try.pinned (OpenSpec.ofChange fnExactKronSpec)

/-- ITS FALSE NEIGHBOUR: 'it returns false'. Refute it at one input. -/
def fnExactKronWrong : ChangeSpec := { name := "fnExactKron", fn := fun _ => fun
  | [d1, d2] => { results := [.lit (.bool false)], args := [d1, d2] }
  | _ => none }
def FnExactKronWrongFalsely : Prop := fnExactKronRow.holds Try.pinned (OpenSpec.ofChange fnExactKronWrong)

/-- 'laws.FnExactColumnOf': WHATEVER THE INPUT: true; the input reads as it did. -/
def fnExactColumnOfSpec : ChangeSpec := { name := "fnExactColumnOf", fn := fun _ => fun
  | [d1, d2] => { results := [.lit (.bool true)], args := [d1, d2] }
  | _ => none }
def fnExactColumnOfRow : OpenClaim := { program := "ytdgcanlbdneelaa", sum := "6405ba308c6f61a965120ace66d8fb458ea347214bb2b54b44ed0e3962935fbf", func := "loop.example/g00864/laws.FnExactColumnOf", spec := "fnExactColumnOf", apart := false }
def FnExactColumnOfSaid : Prop := fnExactColumnOfRow.holds Try.pinned (OpenSpec.ofChange fnExactColumnOfSpec)

/-- ITS FALSE NEIGHBOUR: 'it returns false'. Refute it at one input. -/
def fnExactColumnOfWrong : ChangeSpec := { name := "fnExactColumnOf", fn := fun _ => fun
  | [d1, d2] => { results := [.lit (.bool false)], args := [d1, d2] }
  | _ => none }
def FnExactColumnOfWrongFalsely : Prop := fnExactColumnOfRow.holds Try.pinned (OpenSpec.ofChange fnExactColumnOfWrong)

/-- 'laws.FnExactTraceOf': WHATEVER THE INPUT: true; the input reads as it did. -/
def fnExactTraceOfSpec : ChangeSpec := { name := "fnExactTraceOf", fn := fun _ => fun
  | [d] => { results := [.lit (.bool true)], args := [d] }
  | _ => none }
def fnExactTraceOfRow : OpenClaim := { program := "ytdgcanlbdneelaa", sum := "6405ba308c6f61a965120ace66d8fb458ea347214bb2b54b44ed0e3962935fbf", func := "loop.example/g00864/laws.FnExactTraceOf", spec := "fnExactTraceOf", apart := false }
def FnExactTraceOfSaid : Prop := fnExactTraceOfRow.holds Try.pinned (OpenSpec.ofChange fnExactTraceOfSpec)

/-- ITS FALSE NEIGHBOUR: 'it returns false'. Refute it at one input. -/
def fnExactTraceOfWrong : ChangeSpec := { name := "fnExactTraceOf", fn := fun _ => fun
  | [d] => { results := [.lit (.bool false)], args := [d] }
  | _ => none }
def FnExactTraceOfWrongFalsely : Prop := fnExactTraceOfRow.holds Try.pinned (OpenSpec.ofChange fnExactTraceOfWrong)

/-- 'laws.FnExactIsUnitary': WHATEVER THE INPUT: true; the input reads as it did. -/
def fnExactIsUnitarySpec : ChangeSpec := { name := "fnExactIsUnitary", fn := fun _ => fun
  | [d] => { results := [.lit (.bool true)], args := [d] }
  | _ => none }
def fnExactIsUnitaryRow : OpenClaim := { program := "ytdgcanlbdneelaa", sum := "6405ba308c6f61a965120ace66d8fb458ea347214bb2b54b44ed0e3962935fbf", func := "loop.example/g00864/laws.FnExactIsUnitary", spec := "fnExactIsUnitary", apart := false }
def FnExactIsUnitarySaid : Prop := fnExactIsUnitaryRow.holds Try.pinned (OpenSpec.ofChange fnExactIsUnitarySpec)

/-- ITS FALSE NEIGHBOUR: 'it returns false'. Refute it at one input. -/
def fnExactIsUnitaryWrong : ChangeSpec := { name := "fnExactIsUnitary", fn := fun _ => fun
  | [d] => { results := [.lit (.bool false)], args := [d] }
  | _ => none }
def FnExactIsUnitaryWrongFalsely : Prop := fnExactIsUnitaryRow.holds Try.pinned (OpenSpec.ofChange fnExactIsUnitaryWrong)

/-- 'laws.FnExactLeastExp': WHATEVER THE INPUT: true; the input reads as it did. -/
def fnExactLeastExpSpec : ChangeSpec := { name := "fnExactLeastExp", fn := fun _ => fun
  | [d] => { results := [.lit (.bool true)], args := [d] }
  | _ => none }
def fnExactLeastExpRow : OpenClaim := { program := "ytdgcanlbdneelaa", sum := "6405ba308c6f61a965120ace66d8fb458ea347214bb2b54b44ed0e3962935fbf", func := "loop.example/g00864/laws.FnExactLeastExp", spec := "fnExactLeastExp", apart := false }
def FnExactLeastExpSaid : Prop := fnExactLeastExpRow.holds Try.pinned (OpenSpec.ofChange fnExactLeastExpSpec)

/-- ITS FALSE NEIGHBOUR: 'it returns false'. Refute it at one input. -/
def fnExactLeastExpWrong : ChangeSpec := { name := "fnExactLeastExp", fn := fun _ => fun
  | [d] => { results := [.lit (.bool false)], args := [d] }
  | _ => none }
def FnExactLeastExpWrongFalsely : Prop := fnExactLeastExpRow.holds Try.pinned (OpenSpec.ofChange fnExactLeastExpWrong)

/- THE SECOND FORM. 'bulk': how many values and letters a reading holds, each counted each time it is reached (what is shared counts as often as it is met; a slice's spare places count too). A statement '..UptoSaid' is the law's where the arguments, and the package variables that the reading takes, are together of bulk at most 1048576: NARROWER than '..Said'. Prove '..Said' where nothing that the law and all that it calls make is longer than what came in: it says more and counts as full. Else prove '..UptoSaid'. A law counts once. -/
mutual
def uptoBulk {H : Type} : DataW H → Nat
  | .lit (.string bytes) => bytes.length + 1
  | .lit _ => 1
  | .nil => 1
  | .ptr d => uptoBulk d + 1
  | .slice elems spare => uptoBulkAll elems + uptoBulkAll spare + 1
  | .agg parts => uptoBulkAll parts + 1
  | .iface _ d => uptoBulk d + 1
  | .map entries => uptoBulkEntries entries + 1
  | .held _ => 1
def uptoBulkAll {H : Type} : List (DataW H) → Nat
  | [] => 0
  | d :: r => uptoBulk d + uptoBulkAll r
def uptoBulkEntries {H : Type} : List (Lit × DataW H) → Nat
  | [] => 0
  | x :: r => uptoBulkEntry x + uptoBulkEntries r
def uptoBulkEntry {H : Type} : Lit × DataW H → Nat
  | (.string bytes, d) => bytes.length + uptoBulk d + 1
  | (_, d) => uptoBulk d + 1
 end
def uptoSmall : (H : Type) → List (DataW H) → Bool := fun _ ds => decide (uptoBulkAll ds ≤ 1048576)
def OpenSpec.upto (s : _root_.Go.ChangeSpec) : _root_.Go.OpenSpec := { _root_.Go.OpenSpec.ofChange s with cond := some uptoSmall }

/-- 'laws.FnMatrices', WHERE WHAT IT READS IS OF BULK AT MOST 1048576: true; the input reads as it did. -/
def fnMatricesUptoRow : OpenClaim := { program := "ytdgcanlbdneelaa", sum := "6405ba308c6f61a965120ace66d8fb458ea347214bb2b54b44ed0e3962935fbf", func := "loop.example/g00864/laws.FnMatrices", spec := "fnMatrices", apart := false, narrowed := true }
def FnMatricesUptoSaid : Prop := fnMatricesUptoRow.holds Try.pinned (OpenSpec.upto fnMatricesSpec)

/-- 'laws.FnExactIsValidMatrix', WHERE WHAT IT READS IS OF BULK AT MOST 1048576: true; the input reads as it did. -/
def fnExactIsValidMatrixUptoRow : OpenClaim := { program := "ytdgcanlbdneelaa", sum := "6405ba308c6f61a965120ace66d8fb458ea347214bb2b54b44ed0e3962935fbf", func := "loop.example/g00864/laws.FnExactIsValidMatrix", spec := "fnExactIsValidMatrix", apart := false, narrowed := true }
def FnExactIsValidMatrixUptoSaid : Prop := fnExactIsValidMatrixUptoRow.holds Try.pinned (OpenSpec.upto fnExactIsValidMatrixSpec)

/-- 'laws.FnExactEqualMatrices', WHERE WHAT IT READS IS OF BULK AT MOST 1048576: true; the input reads as it did. -/
def fnExactEqualMatricesUptoRow : OpenClaim := { program := "ytdgcanlbdneelaa", sum := "6405ba308c6f61a965120ace66d8fb458ea347214bb2b54b44ed0e3962935fbf", func := "loop.example/g00864/laws.FnExactEqualMatrices", spec := "fnExactEqualMatrices", apart := false, narrowed := true }
def FnExactEqualMatricesUptoSaid : Prop := fnExactEqualMatricesUptoRow.holds Try.pinned (OpenSpec.upto fnExactEqualMatricesSpec)

/-- 'laws.FnExactIdentityMatrix', WHERE WHAT IT READS IS OF BULK AT MOST 1048576: true; the input reads as it did. -/
def fnExactIdentityMatrixUptoRow : OpenClaim := { program := "ytdgcanlbdneelaa", sum := "6405ba308c6f61a965120ace66d8fb458ea347214bb2b54b44ed0e3962935fbf", func := "loop.example/g00864/laws.FnExactIdentityMatrix", spec := "fnExactIdentityMatrix", apart := false, narrowed := true }
def FnExactIdentityMatrixUptoSaid : Prop := fnExactIdentityMatrixUptoRow.holds Try.pinned (OpenSpec.upto fnExactIdentityMatrixSpec)

/-- 'laws.FnExactMulMatrix', WHERE WHAT IT READS IS OF BULK AT MOST 1048576: true; the input reads as it did. -/
def fnExactMulMatrixUptoRow : OpenClaim := { program := "ytdgcanlbdneelaa", sum := "6405ba308c6f61a965120ace66d8fb458ea347214bb2b54b44ed0e3962935fbf", func := "loop.example/g00864/laws.FnExactMulMatrix", spec := "fnExactMulMatrix", apart := false, narrowed := true }
def FnExactMulMatrixUptoSaid : Prop := fnExactMulMatrixUptoRow.holds Try.pinned (OpenSpec.upto fnExactMulMatrixSpec)

/-- 'laws.FnExactAddMatrix', WHERE WHAT IT READS IS OF BULK AT MOST 1048576: true; the input reads as it did. -/
def fnExactAddMatrixUptoRow : OpenClaim := { program := "ytdgcanlbdneelaa", sum := "6405ba308c6f61a965120ace66d8fb458ea347214bb2b54b44ed0e3962935fbf", func := "loop.example/g00864/laws.FnExactAddMatrix", spec := "fnExactAddMatrix", apart := false, narrowed := true }
def FnExactAddMatrixUptoSaid : Prop := fnExactAddMatrixUptoRow.holds Try.pinned (OpenSpec.upto fnExactAddMatrixSpec)

/-- 'laws.FnExactScaleMatrix', WHERE WHAT IT READS IS OF BULK AT MOST 1048576: true; the input reads as it did. -/
def fnExactScaleMatrixUptoRow : OpenClaim := { program := "ytdgcanlbdneelaa", sum := "6405ba308c6f61a965120ace66d8fb458ea347214bb2b54b44ed0e3962935fbf", func := "loop.example/g00864/laws.FnExactScaleMatrix", spec := "fnExactScaleMatrix", apart := false, narrowed := true }
def FnExactScaleMatrixUptoSaid : Prop := fnExactScaleMatrixUptoRow.holds Try.pinned (OpenSpec.upto fnExactScaleMatrixSpec)

/-- 'laws.FnExactAdjoint', WHERE WHAT IT READS IS OF BULK AT MOST 1048576: true; the input reads as it did. -/
def fnExactAdjointUptoRow : OpenClaim := { program := "ytdgcanlbdneelaa", sum := "6405ba308c6f61a965120ace66d8fb458ea347214bb2b54b44ed0e3962935fbf", func := "loop.example/g00864/laws.FnExactAdjoint", spec := "fnExactAdjoint", apart := false, narrowed := true }
def FnExactAdjointUptoSaid : Prop := fnExactAdjointUptoRow.holds Try.pinned (OpenSpec.upto fnExactAdjointSpec)

/-- 'laws.FnExactKron', WHERE WHAT IT READS IS OF BULK AT MOST 1048576: true; the input reads as it did. -/
def fnExactKronUptoRow : OpenClaim := { program := "ytdgcanlbdneelaa", sum := "6405ba308c6f61a965120ace66d8fb458ea347214bb2b54b44ed0e3962935fbf", func := "loop.example/g00864/laws.FnExactKron", spec := "fnExactKron", apart := false, narrowed := true }
def FnExactKronUptoSaid : Prop := fnExactKronUptoRow.holds Try.pinned (OpenSpec.upto fnExactKronSpec)

/-- 'laws.FnExactColumnOf', WHERE WHAT IT READS IS OF BULK AT MOST 1048576: true; the input reads as it did. -/
def fnExactColumnOfUptoRow : OpenClaim := { program := "ytdgcanlbdneelaa", sum := "6405ba308c6f61a965120ace66d8fb458ea347214bb2b54b44ed0e3962935fbf", func := "loop.example/g00864/laws.FnExactColumnOf", spec := "fnExactColumnOf", apart := false, narrowed := true }
def FnExactColumnOfUptoSaid : Prop := fnExactColumnOfUptoRow.holds Try.pinned (OpenSpec.upto fnExactColumnOfSpec)

/-- 'laws.FnExactTraceOf', WHERE WHAT IT READS IS OF BULK AT MOST 1048576: true; the input reads as it did. -/
def fnExactTraceOfUptoRow : OpenClaim := { program := "ytdgcanlbdneelaa", sum := "6405ba308c6f61a965120ace66d8fb458ea347214bb2b54b44ed0e3962935fbf", func := "loop.example/g00864/laws.FnExactTraceOf", spec := "fnExactTraceOf", apart := false, narrowed := true }
def FnExactTraceOfUptoSaid : Prop := fnExactTraceOfUptoRow.holds Try.pinned (OpenSpec.upto fnExactTraceOfSpec)

/-- 'laws.FnExactIsUnitary', WHERE WHAT IT READS IS OF BULK AT MOST 1048576: true; the input reads as it did. -/
def fnExactIsUnitaryUptoRow : OpenClaim := { program := "ytdgcanlbdneelaa", sum := "6405ba308c6f61a965120ace66d8fb458ea347214bb2b54b44ed0e3962935fbf", func := "loop.example/g00864/laws.FnExactIsUnitary", spec := "fnExactIsUnitary", apart := false, narrowed := true }
def FnExactIsUnitaryUptoSaid : Prop := fnExactIsUnitaryUptoRow.holds Try.pinned (OpenSpec.upto fnExactIsUnitarySpec)

/-- 'laws.FnExactLeastExp', WHERE WHAT IT READS IS OF BULK AT MOST 1048576: true; the input reads as it did. -/
def fnExactLeastExpUptoRow : OpenClaim := { program := "ytdgcanlbdneelaa", sum := "6405ba308c6f61a965120ace66d8fb458ea347214bb2b54b44ed0e3962935fbf", func := "loop.example/g00864/laws.FnExactLeastExp", spec := "fnExactLeastExp", apart := false, narrowed := true }
def FnExactLeastExpUptoSaid : Prop := fnExactLeastExpUptoRow.holds Try.pinned (OpenSpec.upto fnExactLeastExpSpec)

end Rows
end Go.Proofs.Ytdgcanlbdneelaa
