/-
  No cell of these rows narrows 'for every input' (looked for: loops, veiled, ifaces, maps, wideKeys, modest, calm, conditions, laid).
  DERIVED. THE GIVEN ROWS OF THIS SEAT. 13 by the template 'for every input the law returns true; each argument reads behind the call as it read before'; 0 by the template 'total and deterministic' (their statements: YtgcligmpdlffoaaTotals.lean).
  GIVEN WITH THE SEED: the statements are not yours to turn. If you find one false, say at which input.
  Laid BY PROGRAM, IN A SANDBOX (cutbox-rows.mjs): the forced cells as the released guide's own fill.sh prints them over the translation 0201095950fd8697… (all of the seat's roots in one cut). By AI agents, Wed Nov 11 2026. No macro, syntax, notation, axiom, sorry.
-/
import Derived.Test.YtgcligmpdlffoaaChecked
import GoSem.Claim
import GoSem.ClaimJoined
import GoSem.ClaimMapViews
import Derived.JoinedTies
import Derived.KernelRfl
namespace Go.Proofs.Ytgcligmpdlffoaa
/- THE CELL 'sum', in the pinned program and in every row, IS THE sha256 OF THE DUMP (.gsa) THAT YtgcligmpdlffoaaProg.lean LOADS. Nothing in Lean hashes anything: it is a label: what it is worth is what the hold of that sum in a sandbox is worth. -/
noncomputable def Try.pinned : Pinned := { name := "ytgcligmpdlffoaa", sum := "0201095950fd869747235bc4dee98c1d15feed03f1216302597c9f835eb4bc44", checked := Try.checked }
namespace Rows
def none {H : Type} : Left H := { results := [], args := [] }

/-- 'laws.FnExactSameOperator': WHATEVER THE INPUT: true; the input reads as it did. -/
def fnExactSameOperatorSpec : ChangeSpec := { name := "fnExactSameOperator", fn := fun _ => fun
  | [d1, d2] => { results := [.lit (.bool true)], args := [d1, d2] }
  | _ => none }
def fnExactSameOperatorRow : OpenClaim := { program := "ytgcligmpdlffoaa", sum := "0201095950fd869747235bc4dee98c1d15feed03f1216302597c9f835eb4bc44", func := "loop.example/g00864/laws.FnExactSameOperator", spec := "fnExactSameOperator", unfollowed := true, recurses := true, plainKeys := false, apart := false }
def FnExactSameOperatorSaid : Prop := fnExactSameOperatorRow.holds Try.pinned (OpenSpec.ofChange fnExactSameOperatorSpec)

/-- ITS FALSE NEIGHBOUR: 'it returns false'. Refute it at one input. -/
def fnExactSameOperatorWrong : ChangeSpec := { name := "fnExactSameOperator", fn := fun _ => fun
  | [d1, d2] => { results := [.lit (.bool false)], args := [d1, d2] }
  | _ => none }
def FnExactSameOperatorWrongFalsely : Prop := fnExactSameOperatorRow.holds Try.pinned (OpenSpec.ofChange fnExactSameOperatorWrong)

/-- 'laws.FnExactOutcomeWeight': WHATEVER THE INPUT: true; the input reads as it did. -/
def fnExactOutcomeWeightSpec : ChangeSpec := { name := "fnExactOutcomeWeight", fn := fun _ => fun
  | [d1, d2, d3] => { results := [.lit (.bool true)], args := [d1, d2, d3] }
  | _ => none }
def fnExactOutcomeWeightRow : OpenClaim := { program := "ytgcligmpdlffoaa", sum := "0201095950fd869747235bc4dee98c1d15feed03f1216302597c9f835eb4bc44", func := "loop.example/g00864/laws.FnExactOutcomeWeight", spec := "fnExactOutcomeWeight", unfollowed := true, recurses := true, plainKeys := false, apart := false }
def FnExactOutcomeWeightSaid : Prop := fnExactOutcomeWeightRow.holds Try.pinned (OpenSpec.ofChange fnExactOutcomeWeightSpec)

/-- ITS FALSE NEIGHBOUR: 'it returns false'. Refute it at one input. -/
def fnExactOutcomeWeightWrong : ChangeSpec := { name := "fnExactOutcomeWeight", fn := fun _ => fun
  | [d1, d2, d3] => { results := [.lit (.bool false)], args := [d1, d2, d3] }
  | _ => none }
def FnExactOutcomeWeightWrongFalsely : Prop := fnExactOutcomeWeightRow.holds Try.pinned (OpenSpec.ofChange fnExactOutcomeWeightWrong)

/-- 'laws.FnExactQubitWeight': WHATEVER THE INPUT: true; the input reads as it did. -/
def fnExactQubitWeightSpec : ChangeSpec := { name := "fnExactQubitWeight", fn := fun _ => fun
  | [d1, d2, d3] => { results := [.lit (.bool true)], args := [d1, d2, d3] }
  | _ => none }
def fnExactQubitWeightRow : OpenClaim := { program := "ytgcligmpdlffoaa", sum := "0201095950fd869747235bc4dee98c1d15feed03f1216302597c9f835eb4bc44", func := "loop.example/g00864/laws.FnExactQubitWeight", spec := "fnExactQubitWeight", unfollowed := true, recurses := true, plainKeys := false, apart := false }
def FnExactQubitWeightSaid : Prop := fnExactQubitWeightRow.holds Try.pinned (OpenSpec.ofChange fnExactQubitWeightSpec)

/-- ITS FALSE NEIGHBOUR: 'it returns false'. Refute it at one input. -/
def fnExactQubitWeightWrong : ChangeSpec := { name := "fnExactQubitWeight", fn := fun _ => fun
  | [d1, d2, d3] => { results := [.lit (.bool false)], args := [d1, d2, d3] }
  | _ => none }
def FnExactQubitWeightWrongFalsely : Prop := fnExactQubitWeightRow.holds Try.pinned (OpenSpec.ofChange fnExactQubitWeightWrong)

/-- 'laws.FnExactIsValidPauli': WHATEVER THE INPUT: true; the input reads as it did. -/
def fnExactIsValidPauliSpec : ChangeSpec := { name := "fnExactIsValidPauli", fn := fun _ => fun
  | [d1, d2] => { results := [.lit (.bool true)], args := [d1, d2] }
  | _ => none }
def fnExactIsValidPauliRow : OpenClaim := { program := "ytgcligmpdlffoaa", sum := "0201095950fd869747235bc4dee98c1d15feed03f1216302597c9f835eb4bc44", func := "loop.example/g00864/laws.FnExactIsValidPauli", spec := "fnExactIsValidPauli", plainKeys := false, apart := false }
def FnExactIsValidPauliSaid : Prop := fnExactIsValidPauliRow.holds Try.pinned (OpenSpec.ofChange fnExactIsValidPauliSpec)

/-- ITS FALSE NEIGHBOUR: 'it returns false'. Refute it at one input. -/
def fnExactIsValidPauliWrong : ChangeSpec := { name := "fnExactIsValidPauli", fn := fun _ => fun
  | [d1, d2] => { results := [.lit (.bool false)], args := [d1, d2] }
  | _ => none }
def FnExactIsValidPauliWrongFalsely : Prop := fnExactIsValidPauliRow.holds Try.pinned (OpenSpec.ofChange fnExactIsValidPauliWrong)

/-- 'laws.FnExactMulPauli': WHATEVER THE INPUT: true; the input reads as it did. -/
def fnExactMulPauliSpec : ChangeSpec := { name := "fnExactMulPauli", fn := fun _ => fun
  | [d1, d2, d3] => { results := [.lit (.bool true)], args := [d1, d2, d3] }
  | _ => none }
def fnExactMulPauliRow : OpenClaim := { program := "ytgcligmpdlffoaa", sum := "0201095950fd869747235bc4dee98c1d15feed03f1216302597c9f835eb4bc44", func := "loop.example/g00864/laws.FnExactMulPauli", spec := "fnExactMulPauli", plainKeys := false, apart := false }
def FnExactMulPauliSaid : Prop := fnExactMulPauliRow.holds Try.pinned (OpenSpec.ofChange fnExactMulPauliSpec)

/-- ITS FALSE NEIGHBOUR: 'it returns false'. Refute it at one input. -/
def fnExactMulPauliWrong : ChangeSpec := { name := "fnExactMulPauli", fn := fun _ => fun
  | [d1, d2, d3] => { results := [.lit (.bool false)], args := [d1, d2, d3] }
  | _ => none }
def FnExactMulPauliWrongFalsely : Prop := fnExactMulPauliRow.holds Try.pinned (OpenSpec.ofChange fnExactMulPauliWrong)

/-- 'laws.FnExactCommute': WHATEVER THE INPUT: true; the input reads as it did. -/
def fnExactCommuteSpec : ChangeSpec := { name := "fnExactCommute", fn := fun _ => fun
  | [d1, d2, d3] => { results := [.lit (.bool true)], args := [d1, d2, d3] }
  | _ => none }
def fnExactCommuteRow : OpenClaim := { program := "ytgcligmpdlffoaa", sum := "0201095950fd869747235bc4dee98c1d15feed03f1216302597c9f835eb4bc44", func := "loop.example/g00864/laws.FnExactCommute", spec := "fnExactCommute", plainKeys := false, apart := false }
def FnExactCommuteSaid : Prop := fnExactCommuteRow.holds Try.pinned (OpenSpec.ofChange fnExactCommuteSpec)

/-- ITS FALSE NEIGHBOUR: 'it returns false'. Refute it at one input. -/
def fnExactCommuteWrong : ChangeSpec := { name := "fnExactCommute", fn := fun _ => fun
  | [d1, d2, d3] => { results := [.lit (.bool false)], args := [d1, d2, d3] }
  | _ => none }
def FnExactCommuteWrongFalsely : Prop := fnExactCommuteRow.holds Try.pinned (OpenSpec.ofChange fnExactCommuteWrong)

/-- 'laws.FnExactPauliMatrix': WHATEVER THE INPUT: true; the input reads as it did. -/
def fnExactPauliMatrixSpec : ChangeSpec := { name := "fnExactPauliMatrix", fn := fun _ => fun
  | [d1, d2] => { results := [.lit (.bool true)], args := [d1, d2] }
  | _ => none }
def fnExactPauliMatrixRow : OpenClaim := { program := "ytgcligmpdlffoaa", sum := "0201095950fd869747235bc4dee98c1d15feed03f1216302597c9f835eb4bc44", func := "loop.example/g00864/laws.FnExactPauliMatrix", spec := "fnExactPauliMatrix", plainKeys := false, apart := false }
def FnExactPauliMatrixSaid : Prop := fnExactPauliMatrixRow.holds Try.pinned (OpenSpec.ofChange fnExactPauliMatrixSpec)

/-- ITS FALSE NEIGHBOUR: 'it returns false'. Refute it at one input. -/
def fnExactPauliMatrixWrong : ChangeSpec := { name := "fnExactPauliMatrix", fn := fun _ => fun
  | [d1, d2] => { results := [.lit (.bool false)], args := [d1, d2] }
  | _ => none }
def FnExactPauliMatrixWrongFalsely : Prop := fnExactPauliMatrixRow.holds Try.pinned (OpenSpec.ofChange fnExactPauliMatrixWrong)

/-- 'laws.FnExactIsValidTableau': WHATEVER THE INPUT: true; the input reads as it did. -/
def fnExactIsValidTableauSpec : ChangeSpec := { name := "fnExactIsValidTableau", fn := fun _ => fun
  | [d] => { results := [.lit (.bool true)], args := [d] }
  | _ => none }
def fnExactIsValidTableauRow : OpenClaim := { program := "ytgcligmpdlffoaa", sum := "0201095950fd869747235bc4dee98c1d15feed03f1216302597c9f835eb4bc44", func := "loop.example/g00864/laws.FnExactIsValidTableau", spec := "fnExactIsValidTableau", plainKeys := false, apart := false }
def FnExactIsValidTableauSaid : Prop := fnExactIsValidTableauRow.holds Try.pinned (OpenSpec.ofChange fnExactIsValidTableauSpec)

/-- ITS FALSE NEIGHBOUR: 'it returns false'. Refute it at one input. -/
def fnExactIsValidTableauWrong : ChangeSpec := { name := "fnExactIsValidTableau", fn := fun _ => fun
  | [d] => { results := [.lit (.bool false)], args := [d] }
  | _ => none }
def FnExactIsValidTableauWrongFalsely : Prop := fnExactIsValidTableauRow.holds Try.pinned (OpenSpec.ofChange fnExactIsValidTableauWrong)

/-- 'laws.FnExactIdentityTableau': WHATEVER THE INPUT: true; the input reads as it did. -/
def fnExactIdentityTableauSpec : ChangeSpec := { name := "fnExactIdentityTableau", fn := fun _ => fun
  | [d] => { results := [.lit (.bool true)], args := [d] }
  | _ => none }
def fnExactIdentityTableauRow : OpenClaim := { program := "ytgcligmpdlffoaa", sum := "0201095950fd869747235bc4dee98c1d15feed03f1216302597c9f835eb4bc44", func := "loop.example/g00864/laws.FnExactIdentityTableau", spec := "fnExactIdentityTableau", plainKeys := false, apart := false }
def FnExactIdentityTableauSaid : Prop := fnExactIdentityTableauRow.holds Try.pinned (OpenSpec.ofChange fnExactIdentityTableauSpec)

/-- ITS FALSE NEIGHBOUR: 'it returns false'. Refute it at one input. -/
def fnExactIdentityTableauWrong : ChangeSpec := { name := "fnExactIdentityTableau", fn := fun _ => fun
  | [d] => { results := [.lit (.bool false)], args := [d] }
  | _ => none }
def FnExactIdentityTableauWrongFalsely : Prop := fnExactIdentityTableauRow.holds Try.pinned (OpenSpec.ofChange fnExactIdentityTableauWrong)

/-- 'laws.FnExactTableauOf': WHATEVER THE INPUT: true; the input reads as it did. -/
def fnExactTableauOfSpec : ChangeSpec := { name := "fnExactTableauOf", fn := fun _ => fun
  | [d] => { results := [.lit (.bool true)], args := [d] }
  | _ => none }
def fnExactTableauOfRow : OpenClaim := { program := "ytgcligmpdlffoaa", sum := "0201095950fd869747235bc4dee98c1d15feed03f1216302597c9f835eb4bc44", func := "loop.example/g00864/laws.FnExactTableauOf", spec := "fnExactTableauOf", unfollowed := true, recurses := true, plainKeys := false, apart := false }
def FnExactTableauOfSaid : Prop := fnExactTableauOfRow.holds Try.pinned (OpenSpec.ofChange fnExactTableauOfSpec)

/-- ITS FALSE NEIGHBOUR: 'it returns false'. Refute it at one input. -/
def fnExactTableauOfWrong : ChangeSpec := { name := "fnExactTableauOf", fn := fun _ => fun
  | [d] => { results := [.lit (.bool false)], args := [d] }
  | _ => none }
def FnExactTableauOfWrongFalsely : Prop := fnExactTableauOfRow.holds Try.pinned (OpenSpec.ofChange fnExactTableauOfWrong)

/-- 'laws.FnExactImageOf': WHATEVER THE INPUT: true; the input reads as it did. -/
def fnExactImageOfSpec : ChangeSpec := { name := "fnExactImageOf", fn := fun _ => fun
  | [d1, d2] => { results := [.lit (.bool true)], args := [d1, d2] }
  | _ => none }
def fnExactImageOfRow : OpenClaim := { program := "ytgcligmpdlffoaa", sum := "0201095950fd869747235bc4dee98c1d15feed03f1216302597c9f835eb4bc44", func := "loop.example/g00864/laws.FnExactImageOf", spec := "fnExactImageOf", plainKeys := false, apart := false }
def FnExactImageOfSaid : Prop := fnExactImageOfRow.holds Try.pinned (OpenSpec.ofChange fnExactImageOfSpec)

/-- ITS FALSE NEIGHBOUR: 'it returns false'. Refute it at one input. -/
def fnExactImageOfWrong : ChangeSpec := { name := "fnExactImageOf", fn := fun _ => fun
  | [d1, d2] => { results := [.lit (.bool false)], args := [d1, d2] }
  | _ => none }
def FnExactImageOfWrongFalsely : Prop := fnExactImageOfRow.holds Try.pinned (OpenSpec.ofChange fnExactImageOfWrong)

/-- 'laws.FnExactComposeTableaux': WHATEVER THE INPUT: true; the input reads as it did. -/
def fnExactComposeTableauxSpec : ChangeSpec := { name := "fnExactComposeTableaux", fn := fun _ => fun
  | [d1, d2] => { results := [.lit (.bool true)], args := [d1, d2] }
  | _ => none }
def fnExactComposeTableauxRow : OpenClaim := { program := "ytgcligmpdlffoaa", sum := "0201095950fd869747235bc4dee98c1d15feed03f1216302597c9f835eb4bc44", func := "loop.example/g00864/laws.FnExactComposeTableaux", spec := "fnExactComposeTableaux", plainKeys := false, apart := false }
def FnExactComposeTableauxSaid : Prop := fnExactComposeTableauxRow.holds Try.pinned (OpenSpec.ofChange fnExactComposeTableauxSpec)

/-- ITS FALSE NEIGHBOUR: 'it returns false'. Refute it at one input. -/
def fnExactComposeTableauxWrong : ChangeSpec := { name := "fnExactComposeTableaux", fn := fun _ => fun
  | [d1, d2] => { results := [.lit (.bool false)], args := [d1, d2] }
  | _ => none }
def FnExactComposeTableauxWrongFalsely : Prop := fnExactComposeTableauxRow.holds Try.pinned (OpenSpec.ofChange fnExactComposeTableauxWrong)

/-- 'laws.FnExactInvertTableau': WHATEVER THE INPUT: true; the input reads as it did. -/
def fnExactInvertTableauSpec : ChangeSpec := { name := "fnExactInvertTableau", fn := fun _ => fun
  | [d] => { results := [.lit (.bool true)], args := [d] }
  | _ => none }
def fnExactInvertTableauRow : OpenClaim := { program := "ytgcligmpdlffoaa", sum := "0201095950fd869747235bc4dee98c1d15feed03f1216302597c9f835eb4bc44", func := "loop.example/g00864/laws.FnExactInvertTableau", spec := "fnExactInvertTableau", plainKeys := false, apart := false }
def FnExactInvertTableauSaid : Prop := fnExactInvertTableauRow.holds Try.pinned (OpenSpec.ofChange fnExactInvertTableauSpec)

/-- ITS FALSE NEIGHBOUR: 'it returns false'. Refute it at one input. -/
def fnExactInvertTableauWrong : ChangeSpec := { name := "fnExactInvertTableau", fn := fun _ => fun
  | [d] => { results := [.lit (.bool false)], args := [d] }
  | _ => none }
def FnExactInvertTableauWrongFalsely : Prop := fnExactInvertTableauRow.holds Try.pinned (OpenSpec.ofChange fnExactInvertTableauWrong)

/- THE SECOND FORM. 'bulk': how many values and letters a reading holds, each counted each time it is reached (what is shared counts as often as it is met; a slice's spare places count too). A statement '..UptoSaid' is the law's where the arguments, and the package variables that the reading takes, are together of bulk at most 1048576: NARROWER than '..Said'. Prove '..Said' where nothing that the law and all that it calls make is longer than what came in: it says more and counts as full. Else prove '..UptoSaid'. A law counts once. -/
mutual
def uptoBulk {H : Type} : DataW H → Nat
  | .lit (.string bytes) => bytes.length + 1
  | .lit _ => 1
  | .nil => 1
  | .ptr d => uptoBulk d + 1
  | .slice elems spare => uptoBulkAll elems + uptoBulkAll spare + 1
  | .agg parts => uptoBulkAll parts + 1
  | .iface _ d => uptoBulk d + 1
  | .map entries => uptoBulkEntries entries + 1
  | .held _ => 1
def uptoBulkAll {H : Type} : List (DataW H) → Nat
  | [] => 0
  | d :: r => uptoBulk d + uptoBulkAll r
def uptoBulkEntries {H : Type} : List (Lit × DataW H) → Nat
  | [] => 0
  | x :: r => uptoBulkEntry x + uptoBulkEntries r
def uptoBulkEntry {H : Type} : Lit × DataW H → Nat
  | (.string bytes, d) => bytes.length + uptoBulk d + 1
  | (_, d) => uptoBulk d + 1
 end
def uptoSmall : (H : Type) → List (DataW H) → Bool := fun _ ds => decide (uptoBulkAll ds ≤ 1048576)
def OpenSpec.upto (s : _root_.Go.ChangeSpec) : _root_.Go.OpenSpec := { _root_.Go.OpenSpec.ofChange s with cond := some uptoSmall }

/-- 'laws.FnExactSameOperator', WHERE WHAT IT READS IS OF BULK AT MOST 1048576: true; the input reads as it did. -/
def fnExactSameOperatorUptoRow : OpenClaim := { program := "ytgcligmpdlffoaa", sum := "0201095950fd869747235bc4dee98c1d15feed03f1216302597c9f835eb4bc44", func := "loop.example/g00864/laws.FnExactSameOperator", spec := "fnExactSameOperator", unfollowed := true, recurses := true, plainKeys := false, apart := false, narrowed := true }
def FnExactSameOperatorUptoSaid : Prop := fnExactSameOperatorUptoRow.holds Try.pinned (OpenSpec.upto fnExactSameOperatorSpec)

/-- 'laws.FnExactOutcomeWeight', WHERE WHAT IT READS IS OF BULK AT MOST 1048576: true; the input reads as it did. -/
def fnExactOutcomeWeightUptoRow : OpenClaim := { program := "ytgcligmpdlffoaa", sum := "0201095950fd869747235bc4dee98c1d15feed03f1216302597c9f835eb4bc44", func := "loop.example/g00864/laws.FnExactOutcomeWeight", spec := "fnExactOutcomeWeight", unfollowed := true, recurses := true, plainKeys := false, apart := false, narrowed := true }
def FnExactOutcomeWeightUptoSaid : Prop := fnExactOutcomeWeightUptoRow.holds Try.pinned (OpenSpec.upto fnExactOutcomeWeightSpec)

/-- 'laws.FnExactQubitWeight', WHERE WHAT IT READS IS OF BULK AT MOST 1048576: true; the input reads as it did. -/
def fnExactQubitWeightUptoRow : OpenClaim := { program := "ytgcligmpdlffoaa", sum := "0201095950fd869747235bc4dee98c1d15feed03f1216302597c9f835eb4bc44", func := "loop.example/g00864/laws.FnExactQubitWeight", spec := "fnExactQubitWeight", unfollowed := true, recurses := true, plainKeys := false, apart := false, narrowed := true }
def FnExactQubitWeightUptoSaid : Prop := fnExactQubitWeightUptoRow.holds Try.pinned (OpenSpec.upto fnExactQubitWeightSpec)

/-- 'laws.FnExactIsValidPauli', WHERE WHAT IT READS IS OF BULK AT MOST 1048576: true; the input reads as it did. -/
def fnExactIsValidPauliUptoRow : OpenClaim := { program := "ytgcligmpdlffoaa", sum := "0201095950fd869747235bc4dee98c1d15feed03f1216302597c9f835eb4bc44", func := "loop.example/g00864/laws.FnExactIsValidPauli", spec := "fnExactIsValidPauli", plainKeys := false, apart := false, narrowed := true }
def FnExactIsValidPauliUptoSaid : Prop := fnExactIsValidPauliUptoRow.holds Try.pinned (OpenSpec.upto fnExactIsValidPauliSpec)

/-- 'laws.FnExactMulPauli', WHERE WHAT IT READS IS OF BULK AT MOST 1048576: true; the input reads as it did. -/
def fnExactMulPauliUptoRow : OpenClaim := { program := "ytgcligmpdlffoaa", sum := "0201095950fd869747235bc4dee98c1d15feed03f1216302597c9f835eb4bc44", func := "loop.example/g00864/laws.FnExactMulPauli", spec := "fnExactMulPauli", plainKeys := false, apart := false, narrowed := true }
def FnExactMulPauliUptoSaid : Prop := fnExactMulPauliUptoRow.holds Try.pinned (OpenSpec.upto fnExactMulPauliSpec)

/-- 'laws.FnExactCommute', WHERE WHAT IT READS IS OF BULK AT MOST 1048576: true; the input reads as it did. -/
def fnExactCommuteUptoRow : OpenClaim := { program := "ytgcligmpdlffoaa", sum := "0201095950fd869747235bc4dee98c1d15feed03f1216302597c9f835eb4bc44", func := "loop.example/g00864/laws.FnExactCommute", spec := "fnExactCommute", plainKeys := false, apart := false, narrowed := true }
def FnExactCommuteUptoSaid : Prop := fnExactCommuteUptoRow.holds Try.pinned (OpenSpec.upto fnExactCommuteSpec)

/-- 'laws.FnExactPauliMatrix', WHERE WHAT IT READS IS OF BULK AT MOST 1048576: true; the input reads as it did. -/
def fnExactPauliMatrixUptoRow : OpenClaim := { program := "ytgcligmpdlffoaa", sum := "0201095950fd869747235bc4dee98c1d15feed03f1216302597c9f835eb4bc44", func := "loop.example/g00864/laws.FnExactPauliMatrix", spec := "fnExactPauliMatrix", plainKeys := false, apart := false, narrowed := true }
def FnExactPauliMatrixUptoSaid : Prop := fnExactPauliMatrixUptoRow.holds Try.pinned (OpenSpec.upto fnExactPauliMatrixSpec)

/-- 'laws.FnExactIsValidTableau', WHERE WHAT IT READS IS OF BULK AT MOST 1048576: true; the input reads as it did. -/
def fnExactIsValidTableauUptoRow : OpenClaim := { program := "ytgcligmpdlffoaa", sum := "0201095950fd869747235bc4dee98c1d15feed03f1216302597c9f835eb4bc44", func := "loop.example/g00864/laws.FnExactIsValidTableau", spec := "fnExactIsValidTableau", plainKeys := false, apart := false, narrowed := true }
def FnExactIsValidTableauUptoSaid : Prop := fnExactIsValidTableauUptoRow.holds Try.pinned (OpenSpec.upto fnExactIsValidTableauSpec)

/-- 'laws.FnExactIdentityTableau', WHERE WHAT IT READS IS OF BULK AT MOST 1048576: true; the input reads as it did. -/
def fnExactIdentityTableauUptoRow : OpenClaim := { program := "ytgcligmpdlffoaa", sum := "0201095950fd869747235bc4dee98c1d15feed03f1216302597c9f835eb4bc44", func := "loop.example/g00864/laws.FnExactIdentityTableau", spec := "fnExactIdentityTableau", plainKeys := false, apart := false, narrowed := true }
def FnExactIdentityTableauUptoSaid : Prop := fnExactIdentityTableauUptoRow.holds Try.pinned (OpenSpec.upto fnExactIdentityTableauSpec)

/-- 'laws.FnExactTableauOf', WHERE WHAT IT READS IS OF BULK AT MOST 1048576: true; the input reads as it did. -/
def fnExactTableauOfUptoRow : OpenClaim := { program := "ytgcligmpdlffoaa", sum := "0201095950fd869747235bc4dee98c1d15feed03f1216302597c9f835eb4bc44", func := "loop.example/g00864/laws.FnExactTableauOf", spec := "fnExactTableauOf", unfollowed := true, recurses := true, plainKeys := false, apart := false, narrowed := true }
def FnExactTableauOfUptoSaid : Prop := fnExactTableauOfUptoRow.holds Try.pinned (OpenSpec.upto fnExactTableauOfSpec)

/-- 'laws.FnExactImageOf', WHERE WHAT IT READS IS OF BULK AT MOST 1048576: true; the input reads as it did. -/
def fnExactImageOfUptoRow : OpenClaim := { program := "ytgcligmpdlffoaa", sum := "0201095950fd869747235bc4dee98c1d15feed03f1216302597c9f835eb4bc44", func := "loop.example/g00864/laws.FnExactImageOf", spec := "fnExactImageOf", plainKeys := false, apart := false, narrowed := true }
def FnExactImageOfUptoSaid : Prop := fnExactImageOfUptoRow.holds Try.pinned (OpenSpec.upto fnExactImageOfSpec)

/-- 'laws.FnExactComposeTableaux', WHERE WHAT IT READS IS OF BULK AT MOST 1048576: true; the input reads as it did. -/
def fnExactComposeTableauxUptoRow : OpenClaim := { program := "ytgcligmpdlffoaa", sum := "0201095950fd869747235bc4dee98c1d15feed03f1216302597c9f835eb4bc44", func := "loop.example/g00864/laws.FnExactComposeTableaux", spec := "fnExactComposeTableaux", plainKeys := false, apart := false, narrowed := true }
def FnExactComposeTableauxUptoSaid : Prop := fnExactComposeTableauxUptoRow.holds Try.pinned (OpenSpec.upto fnExactComposeTableauxSpec)

/-- 'laws.FnExactInvertTableau', WHERE WHAT IT READS IS OF BULK AT MOST 1048576: true; the input reads as it did. -/
def fnExactInvertTableauUptoRow : OpenClaim := { program := "ytgcligmpdlffoaa", sum := "0201095950fd869747235bc4dee98c1d15feed03f1216302597c9f835eb4bc44", func := "loop.example/g00864/laws.FnExactInvertTableau", spec := "fnExactInvertTableau", plainKeys := false, apart := false, narrowed := true }
def FnExactInvertTableauUptoSaid : Prop := fnExactInvertTableauUptoRow.holds Try.pinned (OpenSpec.upto fnExactInvertTableauSpec)

end Rows
end Go.Proofs.Ytgcligmpdlffoaa
