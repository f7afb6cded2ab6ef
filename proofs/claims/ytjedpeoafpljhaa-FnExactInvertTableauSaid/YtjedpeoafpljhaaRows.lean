/-
  No cell of these rows narrows 'for every input' (looked for: loops, veiled, ifaces, maps, wideKeys, modest, calm, conditions, laid).
  DERIVED. THE GIVEN ROWS OF THIS SEAT. 10 by the template 'for every input the law returns true; each argument reads behind the call as it read before'; 0 by the template 'total and deterministic' (their statements: YtjedpeoafpljhaaTotals.lean).
  GIVEN WITH THE SEED: the statements are not yours to turn. If you find one false, say at which input.
  Laid BY PROGRAM, IN A SANDBOX (cutbox-rows.mjs): the forced cells as the released guide's own fill.sh prints them over the translation 2331d149c26f64b2… (all of the seat's roots in one cut). By AI agents, Wed Nov 11 2026. No macro, syntax, notation, axiom, sorry.
-/
import Derived.Test.YtjedpeoafpljhaaChecked
import GoSem.Claim
import GoSem.ClaimJoined
import GoSem.ClaimMapViews
import Derived.JoinedTies
import Derived.KernelRfl
namespace Go.Proofs.Ytjedpeoafpljhaa
/- THE CELL 'sum', in the pinned program and in every row, IS THE sha256 OF THE DUMP (.gsa) THAT YtjedpeoafpljhaaProg.lean LOADS. Nothing in Lean hashes anything: it is a label: what it is worth is what the hold of that sum in a sandbox is worth. -/
noncomputable def Try.pinned : Pinned := { name := "ytjedpeoafpljhaa", sum := "2331d149c26f64b2148e89d2b241bce560cc2ed1bdc6498a26e659b4b858440f", checked := Try.checked }
namespace Rows
def none {H : Type} : Left H := { results := [], args := [] }

/-- 'laws.FnMatrices': WHATEVER THE INPUT: true; the input reads as it did. -/
def fnMatricesSpec : ChangeSpec := { name := "fnMatrices", fn := fun _ => fun
  | [d1, d2] => { results := [.lit (.bool true)], args := [d1, d2] }
  | _ => none }
def fnMatricesRow : OpenClaim := { program := "ytjedpeoafpljhaa", sum := "2331d149c26f64b2148e89d2b241bce560cc2ed1bdc6498a26e659b4b858440f", func := "loop.example/g00864/laws.FnMatrices", spec := "fnMatrices", plainKeys := false, apart := false }
def FnMatricesSaid : Prop := fnMatricesRow.holds Try.pinned (OpenSpec.ofChange fnMatricesSpec)

/-- ITS FALSE NEIGHBOUR: 'it returns false'. Refute it at one input. -/
def fnMatricesWrong : ChangeSpec := { name := "fnMatrices", fn := fun _ => fun
  | [d1, d2] => { results := [.lit (.bool false)], args := [d1, d2] }
  | _ => none }
def FnMatricesWrongFalsely : Prop := fnMatricesRow.holds Try.pinned (OpenSpec.ofChange fnMatricesWrong)

/-- 'laws.FnExactPauliMatrix': WHATEVER THE INPUT: true; the input reads as it did. -/
def fnExactPauliMatrixSpec : ChangeSpec := { name := "fnExactPauliMatrix", fn := fun _ => fun
  | [d1, d2] => { results := [.lit (.bool true)], args := [d1, d2] }
  | _ => none }
def fnExactPauliMatrixRow : OpenClaim := { program := "ytjedpeoafpljhaa", sum := "2331d149c26f64b2148e89d2b241bce560cc2ed1bdc6498a26e659b4b858440f", func := "loop.example/g00864/laws.FnExactPauliMatrix", spec := "fnExactPauliMatrix", plainKeys := false, apart := false }
def FnExactPauliMatrixSaid : Prop := fnExactPauliMatrixRow.holds Try.pinned (OpenSpec.ofChange fnExactPauliMatrixSpec)

/-- ITS FALSE NEIGHBOUR: 'it returns false'. Refute it at one input. -/
def fnExactPauliMatrixWrong : ChangeSpec := { name := "fnExactPauliMatrix", fn := fun _ => fun
  | [d1, d2] => { results := [.lit (.bool false)], args := [d1, d2] }
  | _ => none }
def FnExactPauliMatrixWrongFalsely : Prop := fnExactPauliMatrixRow.holds Try.pinned (OpenSpec.ofChange fnExactPauliMatrixWrong)

/-- 'laws.FnExactTableauOf': WHATEVER THE INPUT: true; the input reads as it did. -/
def fnExactTableauOfSpec : ChangeSpec := { name := "fnExactTableauOf", fn := fun _ => fun
  | [d] => { results := [.lit (.bool true)], args := [d] }
  | _ => none }
def fnExactTableauOfRow : OpenClaim := { program := "ytjedpeoafpljhaa", sum := "2331d149c26f64b2148e89d2b241bce560cc2ed1bdc6498a26e659b4b858440f", func := "loop.example/g00864/laws.FnExactTableauOf", spec := "fnExactTableauOf", unfollowed := true, recurses := true, plainKeys := false, apart := false }
def FnExactTableauOfSaid : Prop := fnExactTableauOfRow.holds Try.pinned (OpenSpec.ofChange fnExactTableauOfSpec)

/-- ITS FALSE NEIGHBOUR: 'it returns false'. Refute it at one input. -/
def fnExactTableauOfWrong : ChangeSpec := { name := "fnExactTableauOf", fn := fun _ => fun
  | [d] => { results := [.lit (.bool false)], args := [d] }
  | _ => none }
def FnExactTableauOfWrongFalsely : Prop := fnExactTableauOfRow.holds Try.pinned (OpenSpec.ofChange fnExactTableauOfWrong)

/-- 'laws.FnExactInvertTableau': WHATEVER THE INPUT: true; the input reads as it did. -/
def fnExactInvertTableauSpec : ChangeSpec := { name := "fnExactInvertTableau", fn := fun _ => fun
  | [d] => { results := [.lit (.bool true)], args := [d] }
  | _ => none }
def fnExactInvertTableauRow : OpenClaim := { program := "ytjedpeoafpljhaa", sum := "2331d149c26f64b2148e89d2b241bce560cc2ed1bdc6498a26e659b4b858440f", func := "loop.example/g00864/laws.FnExactInvertTableau", spec := "fnExactInvertTableau", plainKeys := false, apart := false }
def FnExactInvertTableauSaid : Prop := fnExactInvertTableauRow.holds Try.pinned (OpenSpec.ofChange fnExactInvertTableauSpec)

/-- ITS FALSE NEIGHBOUR: 'it returns false'. Refute it at one input. -/
def fnExactInvertTableauWrong : ChangeSpec := { name := "fnExactInvertTableau", fn := fun _ => fun
  | [d] => { results := [.lit (.bool false)], args := [d] }
  | _ => none }
def FnExactInvertTableauWrongFalsely : Prop := fnExactInvertTableauRow.holds Try.pinned (OpenSpec.ofChange fnExactInvertTableauWrong)

/-- 'laws.FnExactSameClifford': WHATEVER THE INPUT: true; the input reads as it did. -/
def fnExactSameCliffordSpec : ChangeSpec := { name := "fnExactSameClifford", fn := fun _ => fun
  | [d1, d2] => { results := [.lit (.bool true)], args := [d1, d2] }
  | _ => none }
def fnExactSameCliffordRow : OpenClaim := { program := "ytjedpeoafpljhaa", sum := "2331d149c26f64b2148e89d2b241bce560cc2ed1bdc6498a26e659b4b858440f", func := "loop.example/g00864/laws.FnExactSameClifford", spec := "fnExactSameClifford", unfollowed := true, recurses := true, plainKeys := false, apart := false }
def FnExactSameCliffordSaid : Prop := fnExactSameCliffordRow.holds Try.pinned (OpenSpec.ofChange fnExactSameCliffordSpec)

/-- ITS FALSE NEIGHBOUR: 'it returns false'. Refute it at one input. -/
def fnExactSameCliffordWrong : ChangeSpec := { name := "fnExactSameClifford", fn := fun _ => fun
  | [d1, d2] => { results := [.lit (.bool false)], args := [d1, d2] }
  | _ => none }
def FnExactSameCliffordWrongFalsely : Prop := fnExactSameCliffordRow.holds Try.pinned (OpenSpec.ofChange fnExactSameCliffordWrong)

/-- 'laws.FnExactSignOnly': WHATEVER THE INPUT: true; the input reads as it did. -/
def fnExactSignOnlySpec : ChangeSpec := { name := "fnExactSignOnly", fn := fun _ => fun
  | [d] => { results := [.lit (.bool true)], args := [d] }
  | _ => none }
def fnExactSignOnlyRow : OpenClaim := { program := "ytjedpeoafpljhaa", sum := "2331d149c26f64b2148e89d2b241bce560cc2ed1bdc6498a26e659b4b858440f", func := "loop.example/g00864/laws.FnExactSignOnly", spec := "fnExactSignOnly", plainKeys := false, apart := false }
def FnExactSignOnlySaid : Prop := fnExactSignOnlyRow.holds Try.pinned (OpenSpec.ofChange fnExactSignOnlySpec)

/-- ITS FALSE NEIGHBOUR: 'it returns false'. Refute it at one input. -/
def fnExactSignOnlyWrong : ChangeSpec := { name := "fnExactSignOnly", fn := fun _ => fun
  | [d] => { results := [.lit (.bool false)], args := [d] }
  | _ => none }
def FnExactSignOnlyWrongFalsely : Prop := fnExactSignOnlyRow.holds Try.pinned (OpenSpec.ofChange fnExactSignOnlyWrong)

/-- 'laws.FnExactPauliFrameOf': WHATEVER THE INPUT: true; the input reads as it did. -/
def fnExactPauliFrameOfSpec : ChangeSpec := { name := "fnExactPauliFrameOf", fn := fun _ => fun
  | [d] => { results := [.lit (.bool true)], args := [d] }
  | _ => none }
def fnExactPauliFrameOfRow : OpenClaim := { program := "ytjedpeoafpljhaa", sum := "2331d149c26f64b2148e89d2b241bce560cc2ed1bdc6498a26e659b4b858440f", func := "loop.example/g00864/laws.FnExactPauliFrameOf", spec := "fnExactPauliFrameOf", plainKeys := false, apart := false }
def FnExactPauliFrameOfSaid : Prop := fnExactPauliFrameOfRow.holds Try.pinned (OpenSpec.ofChange fnExactPauliFrameOfSpec)

/-- ITS FALSE NEIGHBOUR: 'it returns false'. Refute it at one input. -/
def fnExactPauliFrameOfWrong : ChangeSpec := { name := "fnExactPauliFrameOf", fn := fun _ => fun
  | [d] => { results := [.lit (.bool false)], args := [d] }
  | _ => none }
def FnExactPauliFrameOfWrongFalsely : Prop := fnExactPauliFrameOfRow.holds Try.pinned (OpenSpec.ofChange fnExactPauliFrameOfWrong)

/-- 'laws.FnExactLeastWord': WHATEVER THE INPUT: true; the input reads as it did. -/
def fnExactLeastWordSpec : ChangeSpec := { name := "fnExactLeastWord", fn := fun _ => fun
  | [d] => { results := [.lit (.bool true)], args := [d] }
  | _ => none }
def fnExactLeastWordRow : OpenClaim := { program := "ytjedpeoafpljhaa", sum := "2331d149c26f64b2148e89d2b241bce560cc2ed1bdc6498a26e659b4b858440f", func := "loop.example/g00864/laws.FnExactLeastWord", spec := "fnExactLeastWord", plainKeys := false, apart := false }
def FnExactLeastWordSaid : Prop := fnExactLeastWordRow.holds Try.pinned (OpenSpec.ofChange fnExactLeastWordSpec)

/-- ITS FALSE NEIGHBOUR: 'it returns false'. Refute it at one input. -/
def fnExactLeastWordWrong : ChangeSpec := { name := "fnExactLeastWord", fn := fun _ => fun
  | [d] => { results := [.lit (.bool false)], args := [d] }
  | _ => none }
def FnExactLeastWordWrongFalsely : Prop := fnExactLeastWordRow.holds Try.pinned (OpenSpec.ofChange fnExactLeastWordWrong)

/-- 'laws.FnExactLeastWordLength': WHATEVER THE INPUT: true; the input reads as it did. -/
def fnExactLeastWordLengthSpec : ChangeSpec := { name := "fnExactLeastWordLength", fn := fun _ => fun
  | [d] => { results := [.lit (.bool true)], args := [d] }
  | _ => none }
def fnExactLeastWordLengthRow : OpenClaim := { program := "ytjedpeoafpljhaa", sum := "2331d149c26f64b2148e89d2b241bce560cc2ed1bdc6498a26e659b4b858440f", func := "loop.example/g00864/laws.FnExactLeastWordLength", spec := "fnExactLeastWordLength", plainKeys := false, apart := false }
def FnExactLeastWordLengthSaid : Prop := fnExactLeastWordLengthRow.holds Try.pinned (OpenSpec.ofChange fnExactLeastWordLengthSpec)

/-- ITS FALSE NEIGHBOUR: 'it returns false'. Refute it at one input. -/
def fnExactLeastWordLengthWrong : ChangeSpec := { name := "fnExactLeastWordLength", fn := fun _ => fun
  | [d] => { results := [.lit (.bool false)], args := [d] }
  | _ => none }
def FnExactLeastWordLengthWrongFalsely : Prop := fnExactLeastWordLengthRow.holds Try.pinned (OpenSpec.ofChange fnExactLeastWordLengthWrong)

/-- 'laws.FnExactOrderOf': WHATEVER THE INPUT: true; the input reads as it did. -/
def fnExactOrderOfSpec : ChangeSpec := { name := "fnExactOrderOf", fn := fun _ => fun
  | [d] => { results := [.lit (.bool true)], args := [d] }
  | _ => none }
def fnExactOrderOfRow : OpenClaim := { program := "ytjedpeoafpljhaa", sum := "2331d149c26f64b2148e89d2b241bce560cc2ed1bdc6498a26e659b4b858440f", func := "loop.example/g00864/laws.FnExactOrderOf", spec := "fnExactOrderOf", plainKeys := false, apart := false }
def FnExactOrderOfSaid : Prop := fnExactOrderOfRow.holds Try.pinned (OpenSpec.ofChange fnExactOrderOfSpec)

/-- ITS FALSE NEIGHBOUR: 'it returns false'. Refute it at one input. -/
def fnExactOrderOfWrong : ChangeSpec := { name := "fnExactOrderOf", fn := fun _ => fun
  | [d] => { results := [.lit (.bool false)], args := [d] }
  | _ => none }
def FnExactOrderOfWrongFalsely : Prop := fnExactOrderOfRow.holds Try.pinned (OpenSpec.ofChange fnExactOrderOfWrong)

/- THE SECOND FORM. 'bulk': how many values and letters a reading holds, each counted each time it is reached (what is shared counts as often as it is met; a slice's spare places count too). A statement '..UptoSaid' is the law's where the arguments, and the package variables that the reading takes, are together of bulk at most 1048576: NARROWER than '..Said'. Prove '..Said' where nothing that the law and all that it calls make is longer than what came in: it says more and counts as full. Else prove '..UptoSaid'. A law counts once. -/
mutual
def uptoBulk {H : Type} : DataW H → Nat
  | .lit (.string bytes) => bytes.length + 1
  | .lit _ => 1
  | .nil => 1
  | .ptr d => uptoBulk d + 1
  | .slice elems spare => uptoBulkAll elems + uptoBulkAll spare + 1
  | .agg parts => uptoBulkAll parts + 1
  | .iface _ d => uptoBulk d + 1
  | .map entries => uptoBulkEntries entries + 1
  | .held _ => 1
def uptoBulkAll {H : Type} : List (DataW H) → Nat
  | [] => 0
  | d :: r => uptoBulk d + uptoBulkAll r
def uptoBulkEntries {H : Type} : List (Lit × DataW H) → Nat
  | [] => 0
  | x :: r => uptoBulkEntry x + uptoBulkEntries r
def uptoBulkEntry {H : Type} : Lit × DataW H → Nat
  | (.string bytes, d) => bytes.length + uptoBulk d + 1
  | (_, d) => uptoBulk d + 1
 end
def uptoSmall : (H : Type) → List (DataW H) → Bool := fun _ ds => decide (uptoBulkAll ds ≤ 1048576)
def OpenSpec.upto (s : _root_.Go.ChangeSpec) : _root_.Go.OpenSpec := { _root_.Go.OpenSpec.ofChange s with cond := some uptoSmall }

/-- 'laws.FnMatrices', WHERE WHAT IT READS IS OF BULK AT MOST 1048576: true; the input reads as it did. -/
def fnMatricesUptoRow : OpenClaim := { program := "ytjedpeoafpljhaa", sum := "2331d149c26f64b2148e89d2b241bce560cc2ed1bdc6498a26e659b4b858440f", func := "loop.example/g00864/laws.FnMatrices", spec := "fnMatrices", plainKeys := false, apart := false, narrowed := true }
def FnMatricesUptoSaid : Prop := fnMatricesUptoRow.holds Try.pinned (OpenSpec.upto fnMatricesSpec)

/-- 'laws.FnExactPauliMatrix', WHERE WHAT IT READS IS OF BULK AT MOST 1048576: true; the input reads as it did. -/
def fnExactPauliMatrixUptoRow : OpenClaim := { program := "ytjedpeoafpljhaa", sum := "2331d149c26f64b2148e89d2b241bce560cc2ed1bdc6498a26e659b4b858440f", func := "loop.example/g00864/laws.FnExactPauliMatrix", spec := "fnExactPauliMatrix", plainKeys := false, apart := false, narrowed := true }
def FnExactPauliMatrixUptoSaid : Prop := fnExactPauliMatrixUptoRow.holds Try.pinned (OpenSpec.upto fnExactPauliMatrixSpec)

/-- 'laws.FnExactTableauOf', WHERE WHAT IT READS IS OF BULK AT MOST 1048576: true; the input reads as it did. -/
def fnExactTableauOfUptoRow : OpenClaim := { program := "ytjedpeoafpljhaa", sum := "2331d149c26f64b2148e89d2b241bce560cc2ed1bdc6498a26e659b4b858440f", func := "loop.example/g00864/laws.FnExactTableauOf", spec := "fnExactTableauOf", unfollowed := true, recurses := true, plainKeys := false, apart := false, narrowed := true }
def FnExactTableauOfUptoSaid : Prop := fnExactTableauOfUptoRow.holds Try.pinned (OpenSpec.upto fnExactTableauOfSpec)

/-- 'laws.FnExactInvertTableau', WHERE WHAT IT READS IS OF BULK AT MOST 1048576: true; the input reads as it did. -/
def fnExactInvertTableauUptoRow : OpenClaim := { program := "ytjedpeoafpljhaa", sum := "2331d149c26f64b2148e89d2b241bce560cc2ed1bdc6498a26e659b4b858440f", func := "loop.example/g00864/laws.FnExactInvertTableau", spec := "fnExactInvertTableau", plainKeys := false, apart := false, narrowed := true }
def FnExactInvertTableauUptoSaid : Prop := fnExactInvertTableauUptoRow.holds Try.pinned (OpenSpec.upto fnExactInvertTableauSpec)

/-- 'laws.FnExactSameClifford', WHERE WHAT IT READS IS OF BULK AT MOST 1048576: true; the input reads as it did. -/
def fnExactSameCliffordUptoRow : OpenClaim := { program := "ytjedpeoafpljhaa", sum := "2331d149c26f64b2148e89d2b241bce560cc2ed1bdc6498a26e659b4b858440f", func := "loop.example/g00864/laws.FnExactSameClifford", spec := "fnExactSameClifford", unfollowed := true, recurses := true, plainKeys := false, apart := false, narrowed := true }
def FnExactSameCliffordUptoSaid : Prop := fnExactSameCliffordUptoRow.holds Try.pinned (OpenSpec.upto fnExactSameCliffordSpec)

/-- 'laws.FnExactSignOnly', WHERE WHAT IT READS IS OF BULK AT MOST 1048576: true; the input reads as it did. -/
def fnExactSignOnlyUptoRow : OpenClaim := { program := "ytjedpeoafpljhaa", sum := "2331d149c26f64b2148e89d2b241bce560cc2ed1bdc6498a26e659b4b858440f", func := "loop.example/g00864/laws.FnExactSignOnly", spec := "fnExactSignOnly", plainKeys := false, apart := false, narrowed := true }
def FnExactSignOnlyUptoSaid : Prop := fnExactSignOnlyUptoRow.holds Try.pinned (OpenSpec.upto fnExactSignOnlySpec)

/-- 'laws.FnExactPauliFrameOf', WHERE WHAT IT READS IS OF BULK AT MOST 1048576: true; the input reads as it did. -/
def fnExactPauliFrameOfUptoRow : OpenClaim := { program := "ytjedpeoafpljhaa", sum := "2331d149c26f64b2148e89d2b241bce560cc2ed1bdc6498a26e659b4b858440f", func := "loop.example/g00864/laws.FnExactPauliFrameOf", spec := "fnExactPauliFrameOf", plainKeys := false, apart := false, narrowed := true }
def FnExactPauliFrameOfUptoSaid : Prop := fnExactPauliFrameOfUptoRow.holds Try.pinned (OpenSpec.upto fnExactPauliFrameOfSpec)

/-- 'laws.FnExactLeastWord', WHERE WHAT IT READS IS OF BULK AT MOST 1048576: true; the input reads as it did. -/
def fnExactLeastWordUptoRow : OpenClaim := { program := "ytjedpeoafpljhaa", sum := "2331d149c26f64b2148e89d2b241bce560cc2ed1bdc6498a26e659b4b858440f", func := "loop.example/g00864/laws.FnExactLeastWord", spec := "fnExactLeastWord", plainKeys := false, apart := false, narrowed := true }
def FnExactLeastWordUptoSaid : Prop := fnExactLeastWordUptoRow.holds Try.pinned (OpenSpec.upto fnExactLeastWordSpec)

/-- 'laws.FnExactLeastWordLength', WHERE WHAT IT READS IS OF BULK AT MOST 1048576: true; the input reads as it did. -/
def fnExactLeastWordLengthUptoRow : OpenClaim := { program := "ytjedpeoafpljhaa", sum := "2331d149c26f64b2148e89d2b241bce560cc2ed1bdc6498a26e659b4b858440f", func := "loop.example/g00864/laws.FnExactLeastWordLength", spec := "fnExactLeastWordLength", plainKeys := false, apart := false, narrowed := true }
def FnExactLeastWordLengthUptoSaid : Prop := fnExactLeastWordLengthUptoRow.holds Try.pinned (OpenSpec.upto fnExactLeastWordLengthSpec)

/-- 'laws.FnExactOrderOf', WHERE WHAT IT READS IS OF BULK AT MOST 1048576: true; the input reads as it did. -/
def fnExactOrderOfUptoRow : OpenClaim := { program := "ytjedpeoafpljhaa", sum := "2331d149c26f64b2148e89d2b241bce560cc2ed1bdc6498a26e659b4b858440f", func := "loop.example/g00864/laws.FnExactOrderOf", spec := "fnExactOrderOf", plainKeys := false, apart := false, narrowed := true }
def FnExactOrderOfUptoSaid : Prop := fnExactOrderOfUptoRow.holds Try.pinned (OpenSpec.upto fnExactOrderOfSpec)

end Rows
end Go.Proofs.Ytjedpeoafpljhaa
