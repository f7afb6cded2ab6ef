/-
  No cell of these rows narrows 'for every input' (looked for: loops, veiled, ifaces, maps, wideKeys, modest, calm, conditions, laid).
  DERIVED. THE GIVEN ROWS OF THIS SEAT. 14 by the template 'for every input the law returns true; each argument reads behind the call as it read before'; 0 by the template 'total and deterministic' (their statements: YtefmglofnoinmaaTotals.lean).
  GIVEN WITH THE SEED: the statements are not yours to turn. If you find one false, say at which input.
  Laid BY PROGRAM, IN A SANDBOX (cutbox-rows.mjs): the forced cells as the released guide's own fill.sh prints them over the translation cdbbf7b2c62c43b3… (all of the seat's roots in one cut). By AI agents, Wed Nov 11 2026. No macro, syntax, notation, axiom, sorry.
-/
import Derived.Test.YtefmglofnoinmaaChecked
import GoSem.Claim
import GoSem.ClaimJoined
import GoSem.ClaimMapViews
import Derived.JoinedTies
import Derived.KernelRfl
namespace Go.Proofs.Ytefmglofnoinmaa
/- THE CELL 'sum', in the pinned program and in every row, IS THE sha256 OF THE DUMP (.gsa) THAT YtefmglofnoinmaaProg.lean LOADS. Nothing in Lean hashes anything: it is a label: what it is worth is what the hold of that sum in a sandbox is worth. -/
noncomputable def Try.pinned : Pinned := { name := "ytefmglofnoinmaa", sum := "cdbbf7b2c62c43b3865f05d79ce111b5bb61b6e8e07089cdc873774475e8d788", checked := Try.checked }
namespace Rows
def none {H : Type} : Left H := { results := [], args := [] }

/-- 'laws.FnRing': WHATEVER THE INPUT: true; the input reads as it did. -/
def fnRingSpec : ChangeSpec := { name := "fnRing", fn := fun _ => fun
  | [d1, d2] => { results := [.lit (.bool true)], args := [d1, d2] }
  | _ => none }
def fnRingRow : OpenClaim := { program := "ytefmglofnoinmaa", sum := "cdbbf7b2c62c43b3865f05d79ce111b5bb61b6e8e07089cdc873774475e8d788", func := "loop.example/g00864/laws.FnRing", spec := "fnRing", apart := false }
def FnRingSaid : Prop := fnRingRow.holds Try.pinned (OpenSpec.ofChange fnRingSpec)

/-- ITS FALSE NEIGHBOUR: 'it returns false'. Refute it at one input. -/
def fnRingWrong : ChangeSpec := { name := "fnRing", fn := fun _ => fun
  | [d1, d2] => { results := [.lit (.bool false)], args := [d1, d2] }
  | _ => none }
def FnRingWrongFalsely : Prop := fnRingRow.holds Try.pinned (OpenSpec.ofChange fnRingWrong)

/-- 'laws.FnRingNorms': WHATEVER THE INPUT: true; the input reads as it did. -/
def fnRingNormsSpec : ChangeSpec := { name := "fnRingNorms", fn := fun _ => fun
  | [d1, d2] => { results := [.lit (.bool true)], args := [d1, d2] }
  | _ => none }
def fnRingNormsRow : OpenClaim := { program := "ytefmglofnoinmaa", sum := "cdbbf7b2c62c43b3865f05d79ce111b5bb61b6e8e07089cdc873774475e8d788", func := "loop.example/g00864/laws.FnRingNorms", spec := "fnRingNorms", apart := false }
def FnRingNormsSaid : Prop := fnRingNormsRow.holds Try.pinned (OpenSpec.ofChange fnRingNormsSpec)

/-- ITS FALSE NEIGHBOUR: 'it returns false'. Refute it at one input. -/
def fnRingNormsWrong : ChangeSpec := { name := "fnRingNorms", fn := fun _ => fun
  | [d1, d2] => { results := [.lit (.bool false)], args := [d1, d2] }
  | _ => none }
def FnRingNormsWrongFalsely : Prop := fnRingNormsRow.holds Try.pinned (OpenSpec.ofChange fnRingNormsWrong)

/-- 'laws.FnLowest': WHATEVER THE INPUT: true; the input reads as it did. -/
def fnLowestSpec : ChangeSpec := { name := "fnLowest", fn := fun _ => fun
  | [d1, d2] => { results := [.lit (.bool true)], args := [d1, d2] }
  | _ => none }
def fnLowestRow : OpenClaim := { program := "ytefmglofnoinmaa", sum := "cdbbf7b2c62c43b3865f05d79ce111b5bb61b6e8e07089cdc873774475e8d788", func := "loop.example/g00864/laws.FnLowest", spec := "fnLowest", apart := false }
def FnLowestSaid : Prop := fnLowestRow.holds Try.pinned (OpenSpec.ofChange fnLowestSpec)

/-- ITS FALSE NEIGHBOUR: 'it returns false'. Refute it at one input. -/
def fnLowestWrong : ChangeSpec := { name := "fnLowest", fn := fun _ => fun
  | [d1, d2] => { results := [.lit (.bool false)], args := [d1, d2] }
  | _ => none }
def FnLowestWrongFalsely : Prop := fnLowestRow.holds Try.pinned (OpenSpec.ofChange fnLowestWrong)

/-- 'laws.FnDyadic': WHATEVER THE INPUT: true; the input reads as it did. -/
def fnDyadicSpec : ChangeSpec := { name := "fnDyadic", fn := fun _ => fun
  | [d1, d2] => { results := [.lit (.bool true)], args := [d1, d2] }
  | _ => none }
def fnDyadicRow : OpenClaim := { program := "ytefmglofnoinmaa", sum := "cdbbf7b2c62c43b3865f05d79ce111b5bb61b6e8e07089cdc873774475e8d788", func := "loop.example/g00864/laws.FnDyadic", spec := "fnDyadic", apart := false }
def FnDyadicSaid : Prop := fnDyadicRow.holds Try.pinned (OpenSpec.ofChange fnDyadicSpec)

/-- ITS FALSE NEIGHBOUR: 'it returns false'. Refute it at one input. -/
def fnDyadicWrong : ChangeSpec := { name := "fnDyadic", fn := fun _ => fun
  | [d1, d2] => { results := [.lit (.bool false)], args := [d1, d2] }
  | _ => none }
def FnDyadicWrongFalsely : Prop := fnDyadicRow.holds Try.pinned (OpenSpec.ofChange fnDyadicWrong)

/-- 'laws.FnExactIsValidDyadic': WHATEVER THE INPUT: true; the input reads as it did. -/
def fnExactIsValidDyadicSpec : ChangeSpec := { name := "fnExactIsValidDyadic", fn := fun _ => fun
  | [d] => { results := [.lit (.bool true)], args := [d] }
  | _ => none }
def fnExactIsValidDyadicRow : OpenClaim := { program := "ytefmglofnoinmaa", sum := "cdbbf7b2c62c43b3865f05d79ce111b5bb61b6e8e07089cdc873774475e8d788", func := "loop.example/g00864/laws.FnExactIsValidDyadic", spec := "fnExactIsValidDyadic", apart := false }
def FnExactIsValidDyadicSaid : Prop := fnExactIsValidDyadicRow.holds Try.pinned (OpenSpec.ofChange fnExactIsValidDyadicSpec)

/-- ITS FALSE NEIGHBOUR: 'it returns false'. Refute it at one input. -/
def fnExactIsValidDyadicWrong : ChangeSpec := { name := "fnExactIsValidDyadic", fn := fun _ => fun
  | [d] => { results := [.lit (.bool false)], args := [d] }
  | _ => none }
def FnExactIsValidDyadicWrongFalsely : Prop := fnExactIsValidDyadicRow.holds Try.pinned (OpenSpec.ofChange fnExactIsValidDyadicWrong)

/-- 'laws.FnExactDyadicOf': WHATEVER THE INPUT: true; the input reads as it did. -/
def fnExactDyadicOfSpec : ChangeSpec := { name := "fnExactDyadicOf", fn := fun _ => fun
  | [d1, d2] => { results := [.lit (.bool true)], args := [d1, d2] }
  | _ => none }
def fnExactDyadicOfRow : OpenClaim := { program := "ytefmglofnoinmaa", sum := "cdbbf7b2c62c43b3865f05d79ce111b5bb61b6e8e07089cdc873774475e8d788", func := "loop.example/g00864/laws.FnExactDyadicOf", spec := "fnExactDyadicOf", apart := false }
def FnExactDyadicOfSaid : Prop := fnExactDyadicOfRow.holds Try.pinned (OpenSpec.ofChange fnExactDyadicOfSpec)

/-- ITS FALSE NEIGHBOUR: 'it returns false'. Refute it at one input. -/
def fnExactDyadicOfWrong : ChangeSpec := { name := "fnExactDyadicOf", fn := fun _ => fun
  | [d1, d2] => { results := [.lit (.bool false)], args := [d1, d2] }
  | _ => none }
def FnExactDyadicOfWrongFalsely : Prop := fnExactDyadicOfRow.holds Try.pinned (OpenSpec.ofChange fnExactDyadicOfWrong)

/-- 'laws.FnExactAddDyadic': WHATEVER THE INPUT: true; the input reads as it did. -/
def fnExactAddDyadicSpec : ChangeSpec := { name := "fnExactAddDyadic", fn := fun _ => fun
  | [d1, d2] => { results := [.lit (.bool true)], args := [d1, d2] }
  | _ => none }
def fnExactAddDyadicRow : OpenClaim := { program := "ytefmglofnoinmaa", sum := "cdbbf7b2c62c43b3865f05d79ce111b5bb61b6e8e07089cdc873774475e8d788", func := "loop.example/g00864/laws.FnExactAddDyadic", spec := "fnExactAddDyadic", apart := false }
def FnExactAddDyadicSaid : Prop := fnExactAddDyadicRow.holds Try.pinned (OpenSpec.ofChange fnExactAddDyadicSpec)

/-- ITS FALSE NEIGHBOUR: 'it returns false'. Refute it at one input. -/
def fnExactAddDyadicWrong : ChangeSpec := { name := "fnExactAddDyadic", fn := fun _ => fun
  | [d1, d2] => { results := [.lit (.bool false)], args := [d1, d2] }
  | _ => none }
def FnExactAddDyadicWrongFalsely : Prop := fnExactAddDyadicRow.holds Try.pinned (OpenSpec.ofChange fnExactAddDyadicWrong)

/-- 'laws.FnExactSubDyadic': WHATEVER THE INPUT: true; the input reads as it did. -/
def fnExactSubDyadicSpec : ChangeSpec := { name := "fnExactSubDyadic", fn := fun _ => fun
  | [d1, d2] => { results := [.lit (.bool true)], args := [d1, d2] }
  | _ => none }
def fnExactSubDyadicRow : OpenClaim := { program := "ytefmglofnoinmaa", sum := "cdbbf7b2c62c43b3865f05d79ce111b5bb61b6e8e07089cdc873774475e8d788", func := "loop.example/g00864/laws.FnExactSubDyadic", spec := "fnExactSubDyadic", apart := false }
def FnExactSubDyadicSaid : Prop := fnExactSubDyadicRow.holds Try.pinned (OpenSpec.ofChange fnExactSubDyadicSpec)

/-- ITS FALSE NEIGHBOUR: 'it returns false'. Refute it at one input. -/
def fnExactSubDyadicWrong : ChangeSpec := { name := "fnExactSubDyadic", fn := fun _ => fun
  | [d1, d2] => { results := [.lit (.bool false)], args := [d1, d2] }
  | _ => none }
def FnExactSubDyadicWrongFalsely : Prop := fnExactSubDyadicRow.holds Try.pinned (OpenSpec.ofChange fnExactSubDyadicWrong)

/-- 'laws.FnExactMulDyadic': WHATEVER THE INPUT: true; the input reads as it did. -/
def fnExactMulDyadicSpec : ChangeSpec := { name := "fnExactMulDyadic", fn := fun _ => fun
  | [d1, d2] => { results := [.lit (.bool true)], args := [d1, d2] }
  | _ => none }
def fnExactMulDyadicRow : OpenClaim := { program := "ytefmglofnoinmaa", sum := "cdbbf7b2c62c43b3865f05d79ce111b5bb61b6e8e07089cdc873774475e8d788", func := "loop.example/g00864/laws.FnExactMulDyadic", spec := "fnExactMulDyadic", apart := false }
def FnExactMulDyadicSaid : Prop := fnExactMulDyadicRow.holds Try.pinned (OpenSpec.ofChange fnExactMulDyadicSpec)

/-- ITS FALSE NEIGHBOUR: 'it returns false'. Refute it at one input. -/
def fnExactMulDyadicWrong : ChangeSpec := { name := "fnExactMulDyadic", fn := fun _ => fun
  | [d1, d2] => { results := [.lit (.bool false)], args := [d1, d2] }
  | _ => none }
def FnExactMulDyadicWrongFalsely : Prop := fnExactMulDyadicRow.holds Try.pinned (OpenSpec.ofChange fnExactMulDyadicWrong)

/-- 'laws.FnExactConjDyadic': WHATEVER THE INPUT: true; the input reads as it did. -/
def fnExactConjDyadicSpec : ChangeSpec := { name := "fnExactConjDyadic", fn := fun _ => fun
  | [d] => { results := [.lit (.bool true)], args := [d] }
  | _ => none }
def fnExactConjDyadicRow : OpenClaim := { program := "ytefmglofnoinmaa", sum := "cdbbf7b2c62c43b3865f05d79ce111b5bb61b6e8e07089cdc873774475e8d788", func := "loop.example/g00864/laws.FnExactConjDyadic", spec := "fnExactConjDyadic", apart := false }
def FnExactConjDyadicSaid : Prop := fnExactConjDyadicRow.holds Try.pinned (OpenSpec.ofChange fnExactConjDyadicSpec)

/-- ITS FALSE NEIGHBOUR: 'it returns false'. Refute it at one input. -/
def fnExactConjDyadicWrong : ChangeSpec := { name := "fnExactConjDyadic", fn := fun _ => fun
  | [d] => { results := [.lit (.bool false)], args := [d] }
  | _ => none }
def FnExactConjDyadicWrongFalsely : Prop := fnExactConjDyadicRow.holds Try.pinned (OpenSpec.ofChange fnExactConjDyadicWrong)

/-- 'laws.FnExactPhaseOf': WHATEVER THE INPUT: true; the input reads as it did. -/
def fnExactPhaseOfSpec : ChangeSpec := { name := "fnExactPhaseOf", fn := fun _ => fun
  | [d] => { results := [.lit (.bool true)], args := [d] }
  | _ => none }
def fnExactPhaseOfRow : OpenClaim := { program := "ytefmglofnoinmaa", sum := "cdbbf7b2c62c43b3865f05d79ce111b5bb61b6e8e07089cdc873774475e8d788", func := "loop.example/g00864/laws.FnExactPhaseOf", spec := "fnExactPhaseOf", apart := false }
def FnExactPhaseOfSaid : Prop := fnExactPhaseOfRow.holds Try.pinned (OpenSpec.ofChange fnExactPhaseOfSpec)

/-- ITS FALSE NEIGHBOUR: 'it returns false'. Refute it at one input. -/
def fnExactPhaseOfWrong : ChangeSpec := { name := "fnExactPhaseOf", fn := fun _ => fun
  | [d] => { results := [.lit (.bool false)], args := [d] }
  | _ => none }
def FnExactPhaseOfWrongFalsely : Prop := fnExactPhaseOfRow.holds Try.pinned (OpenSpec.ofChange fnExactPhaseOfWrong)

/-- 'laws.FnExactNormSquare': WHATEVER THE INPUT: true; the input reads as it did. -/
def fnExactNormSquareSpec : ChangeSpec := { name := "fnExactNormSquare", fn := fun _ => fun
  | [d] => { results := [.lit (.bool true)], args := [d] }
  | _ => none }
def fnExactNormSquareRow : OpenClaim := { program := "ytefmglofnoinmaa", sum := "cdbbf7b2c62c43b3865f05d79ce111b5bb61b6e8e07089cdc873774475e8d788", func := "loop.example/g00864/laws.FnExactNormSquare", spec := "fnExactNormSquare", apart := false }
def FnExactNormSquareSaid : Prop := fnExactNormSquareRow.holds Try.pinned (OpenSpec.ofChange fnExactNormSquareSpec)

/-- ITS FALSE NEIGHBOUR: 'it returns false'. Refute it at one input. -/
def fnExactNormSquareWrong : ChangeSpec := { name := "fnExactNormSquare", fn := fun _ => fun
  | [d] => { results := [.lit (.bool false)], args := [d] }
  | _ => none }
def FnExactNormSquareWrongFalsely : Prop := fnExactNormSquareRow.holds Try.pinned (OpenSpec.ofChange fnExactNormSquareWrong)

/-- 'laws.FnExactRealSign': WHATEVER THE INPUT: true; the input reads as it did. -/
def fnExactRealSignSpec : ChangeSpec := { name := "fnExactRealSign", fn := fun _ => fun
  | [d1, d2] => { results := [.lit (.bool true)], args := [d1, d2] }
  | _ => none }
def fnExactRealSignRow : OpenClaim := { program := "ytefmglofnoinmaa", sum := "cdbbf7b2c62c43b3865f05d79ce111b5bb61b6e8e07089cdc873774475e8d788", func := "loop.example/g00864/laws.FnExactRealSign", spec := "fnExactRealSign", apart := false }
def FnExactRealSignSaid : Prop := fnExactRealSignRow.holds Try.pinned (OpenSpec.ofChange fnExactRealSignSpec)

/-- ITS FALSE NEIGHBOUR: 'it returns false'. Refute it at one input. -/
def fnExactRealSignWrong : ChangeSpec := { name := "fnExactRealSign", fn := fun _ => fun
  | [d1, d2] => { results := [.lit (.bool false)], args := [d1, d2] }
  | _ => none }
def FnExactRealSignWrongFalsely : Prop := fnExactRealSignRow.holds Try.pinned (OpenSpec.ofChange fnExactRealSignWrong)

/-- 'laws.FnExactCompareAbs': WHATEVER THE INPUT: true; the input reads as it did. -/
def fnExactCompareAbsSpec : ChangeSpec := { name := "fnExactCompareAbs", fn := fun _ => fun
  | [d1, d2] => { results := [.lit (.bool true)], args := [d1, d2] }
  | _ => none }
def fnExactCompareAbsRow : OpenClaim := { program := "ytefmglofnoinmaa", sum := "cdbbf7b2c62c43b3865f05d79ce111b5bb61b6e8e07089cdc873774475e8d788", func := "loop.example/g00864/laws.FnExactCompareAbs", spec := "fnExactCompareAbs", apart := false }
def FnExactCompareAbsSaid : Prop := fnExactCompareAbsRow.holds Try.pinned (OpenSpec.ofChange fnExactCompareAbsSpec)

/-- ITS FALSE NEIGHBOUR: 'it returns false'. Refute it at one input. -/
def fnExactCompareAbsWrong : ChangeSpec := { name := "fnExactCompareAbs", fn := fun _ => fun
  | [d1, d2] => { results := [.lit (.bool false)], args := [d1, d2] }
  | _ => none }
def FnExactCompareAbsWrongFalsely : Prop := fnExactCompareAbsRow.holds Try.pinned (OpenSpec.ofChange fnExactCompareAbsWrong)

/- THE SECOND FORM. 'bulk': how many values and letters a reading holds, each counted each time it is reached (what is shared counts as often as it is met; a slice's spare places count too). A statement '..UptoSaid' is the law's where the arguments, and the package variables that the reading takes, are together of bulk at most 1048576: NARROWER than '..Said'. Prove '..Said' where nothing that the law and all that it calls make is longer than what came in: it says more and counts as full. Else prove '..UptoSaid'. A law counts once. -/
mutual
def uptoBulk {H : Type} : DataW H → Nat
  | .lit (.string bytes) => bytes.length + 1
  | .lit _ => 1
  | .nil => 1
  | .ptr d => uptoBulk d + 1
  | .slice elems spare => uptoBulkAll elems + uptoBulkAll spare + 1
  | .agg parts => uptoBulkAll parts + 1
  | .iface _ d => uptoBulk d + 1
  | .map entries => uptoBulkEntries entries + 1
  | .held _ => 1
def uptoBulkAll {H : Type} : List (DataW H) → Nat
  | [] => 0
  | d :: r => uptoBulk d + uptoBulkAll r
def uptoBulkEntries {H : Type} : List (Lit × DataW H) → Nat
  | [] => 0
  | x :: r => uptoBulkEntry x + uptoBulkEntries r
def uptoBulkEntry {H : Type} : Lit × DataW H → Nat
  | (.string bytes, d) => bytes.length + uptoBulk d + 1
  | (_, d) => uptoBulk d + 1
 end
def uptoSmall : (H : Type) → List (DataW H) → Bool := fun _ ds => decide (uptoBulkAll ds ≤ 1048576)
def OpenSpec.upto (s : _root_.Go.ChangeSpec) : _root_.Go.OpenSpec := { _root_.Go.OpenSpec.ofChange s with cond := some uptoSmall }

/-- 'laws.FnRing', WHERE WHAT IT READS IS OF BULK AT MOST 1048576: true; the input reads as it did. -/
def fnRingUptoRow : OpenClaim := { program := "ytefmglofnoinmaa", sum := "cdbbf7b2c62c43b3865f05d79ce111b5bb61b6e8e07089cdc873774475e8d788", func := "loop.example/g00864/laws.FnRing", spec := "fnRing", apart := false, narrowed := true }
def FnRingUptoSaid : Prop := fnRingUptoRow.holds Try.pinned (OpenSpec.upto fnRingSpec)

/-- 'laws.FnRingNorms', WHERE WHAT IT READS IS OF BULK AT MOST 1048576: true; the input reads as it did. -/
def fnRingNormsUptoRow : OpenClaim := { program := "ytefmglofnoinmaa", sum := "cdbbf7b2c62c43b3865f05d79ce111b5bb61b6e8e07089cdc873774475e8d788", func := "loop.example/g00864/laws.FnRingNorms", spec := "fnRingNorms", apart := false, narrowed := true }
def FnRingNormsUptoSaid : Prop := fnRingNormsUptoRow.holds Try.pinned (OpenSpec.upto fnRingNormsSpec)

/-- 'laws.FnLowest', WHERE WHAT IT READS IS OF BULK AT MOST 1048576: true; the input reads as it did. -/
def fnLowestUptoRow : OpenClaim := { program := "ytefmglofnoinmaa", sum := "cdbbf7b2c62c43b3865f05d79ce111b5bb61b6e8e07089cdc873774475e8d788", func := "loop.example/g00864/laws.FnLowest", spec := "fnLowest", apart := false, narrowed := true }
def FnLowestUptoSaid : Prop := fnLowestUptoRow.holds Try.pinned (OpenSpec.upto fnLowestSpec)

/-- 'laws.FnDyadic', WHERE WHAT IT READS IS OF BULK AT MOST 1048576: true; the input reads as it did. -/
def fnDyadicUptoRow : OpenClaim := { program := "ytefmglofnoinmaa", sum := "cdbbf7b2c62c43b3865f05d79ce111b5bb61b6e8e07089cdc873774475e8d788", func := "loop.example/g00864/laws.FnDyadic", spec := "fnDyadic", apart := false, narrowed := true }
def FnDyadicUptoSaid : Prop := fnDyadicUptoRow.holds Try.pinned (OpenSpec.upto fnDyadicSpec)

/-- 'laws.FnExactIsValidDyadic', WHERE WHAT IT READS IS OF BULK AT MOST 1048576: true; the input reads as it did. -/
def fnExactIsValidDyadicUptoRow : OpenClaim := { program := "ytefmglofnoinmaa", sum := "cdbbf7b2c62c43b3865f05d79ce111b5bb61b6e8e07089cdc873774475e8d788", func := "loop.example/g00864/laws.FnExactIsValidDyadic", spec := "fnExactIsValidDyadic", apart := false, narrowed := true }
def FnExactIsValidDyadicUptoSaid : Prop := fnExactIsValidDyadicUptoRow.holds Try.pinned (OpenSpec.upto fnExactIsValidDyadicSpec)

/-- 'laws.FnExactDyadicOf', WHERE WHAT IT READS IS OF BULK AT MOST 1048576: true; the input reads as it did. -/
def fnExactDyadicOfUptoRow : OpenClaim := { program := "ytefmglofnoinmaa", sum := "cdbbf7b2c62c43b3865f05d79ce111b5bb61b6e8e07089cdc873774475e8d788", func := "loop.example/g00864/laws.FnExactDyadicOf", spec := "fnExactDyadicOf", apart := false, narrowed := true }
def FnExactDyadicOfUptoSaid : Prop := fnExactDyadicOfUptoRow.holds Try.pinned (OpenSpec.upto fnExactDyadicOfSpec)

/-- 'laws.FnExactAddDyadic', WHERE WHAT IT READS IS OF BULK AT MOST 1048576: true; the input reads as it did. -/
def fnExactAddDyadicUptoRow : OpenClaim := { program := "ytefmglofnoinmaa", sum := "cdbbf7b2c62c43b3865f05d79ce111b5bb61b6e8e07089cdc873774475e8d788", func := "loop.example/g00864/laws.FnExactAddDyadic", spec := "fnExactAddDyadic", apart := false, narrowed := true }
def FnExactAddDyadicUptoSaid : Prop := fnExactAddDyadicUptoRow.holds Try.pinned (OpenSpec.upto fnExactAddDyadicSpec)

/-- 'laws.FnExactSubDyadic', WHERE WHAT IT READS IS OF BULK AT MOST 1048576: true; the input reads as it did. -/
def fnExactSubDyadicUptoRow : OpenClaim := { program := "ytefmglofnoinmaa", sum := "cdbbf7b2c62c43b3865f05d79ce111b5bb61b6e8e07089cdc873774475e8d788", func := "loop.example/g00864/laws.FnExactSubDyadic", spec := "fnExactSubDyadic", apart := false, narrowed := true }
def FnExactSubDyadicUptoSaid : Prop := fnExactSubDyadicUptoRow.holds Try.pinned (OpenSpec.upto fnExactSubDyadicSpec)

/-- 'laws.FnExactMulDyadic', WHERE WHAT IT READS IS OF BULK AT MOST 1048576: true; the input reads as it did. -/
def fnExactMulDyadicUptoRow : OpenClaim := { program := "ytefmglofnoinmaa", sum := "cdbbf7b2c62c43b3865f05d79ce111b5bb61b6e8e07089cdc873774475e8d788", func := "loop.example/g00864/laws.FnExactMulDyadic", spec := "fnExactMulDyadic", apart := false, narrowed := true }
def FnExactMulDyadicUptoSaid : Prop := fnExactMulDyadicUptoRow.holds Try.pinned (OpenSpec.upto fnExactMulDyadicSpec)

/-- 'laws.FnExactConjDyadic', WHERE WHAT IT READS IS OF BULK AT MOST 1048576: true; the input reads as it did. -/
def fnExactConjDyadicUptoRow : OpenClaim := { program := "ytefmglofnoinmaa", sum := "cdbbf7b2c62c43b3865f05d79ce111b5bb61b6e8e07089cdc873774475e8d788", func := "loop.example/g00864/laws.FnExactConjDyadic", spec := "fnExactConjDyadic", apart := false, narrowed := true }
def FnExactConjDyadicUptoSaid : Prop := fnExactConjDyadicUptoRow.holds Try.pinned (OpenSpec.upto fnExactConjDyadicSpec)

/-- 'laws.FnExactPhaseOf', WHERE WHAT IT READS IS OF BULK AT MOST 1048576: true; the input reads as it did. -/
def fnExactPhaseOfUptoRow : OpenClaim := { program := "ytefmglofnoinmaa", sum := "cdbbf7b2c62c43b3865f05d79ce111b5bb61b6e8e07089cdc873774475e8d788", func := "loop.example/g00864/laws.FnExactPhaseOf", spec := "fnExactPhaseOf", apart := false, narrowed := true }
def FnExactPhaseOfUptoSaid : Prop := fnExactPhaseOfUptoRow.holds Try.pinned (OpenSpec.upto fnExactPhaseOfSpec)

/-- 'laws.FnExactNormSquare', WHERE WHAT IT READS IS OF BULK AT MOST 1048576: true; the input reads as it did. -/
def fnExactNormSquareUptoRow : OpenClaim := { program := "ytefmglofnoinmaa", sum := "cdbbf7b2c62c43b3865f05d79ce111b5bb61b6e8e07089cdc873774475e8d788", func := "loop.example/g00864/laws.FnExactNormSquare", spec := "fnExactNormSquare", apart := false, narrowed := true }
def FnExactNormSquareUptoSaid : Prop := fnExactNormSquareUptoRow.holds Try.pinned (OpenSpec.upto fnExactNormSquareSpec)

/-- 'laws.FnExactRealSign', WHERE WHAT IT READS IS OF BULK AT MOST 1048576: true; the input reads as it did. -/
def fnExactRealSignUptoRow : OpenClaim := { program := "ytefmglofnoinmaa", sum := "cdbbf7b2c62c43b3865f05d79ce111b5bb61b6e8e07089cdc873774475e8d788", func := "loop.example/g00864/laws.FnExactRealSign", spec := "fnExactRealSign", apart := false, narrowed := true }
def FnExactRealSignUptoSaid : Prop := fnExactRealSignUptoRow.holds Try.pinned (OpenSpec.upto fnExactRealSignSpec)

/-- 'laws.FnExactCompareAbs', WHERE WHAT IT READS IS OF BULK AT MOST 1048576: true; the input reads as it did. -/
def fnExactCompareAbsUptoRow : OpenClaim := { program := "ytefmglofnoinmaa", sum := "cdbbf7b2c62c43b3865f05d79ce111b5bb61b6e8e07089cdc873774475e8d788", func := "loop.example/g00864/laws.FnExactCompareAbs", spec := "fnExactCompareAbs", apart := false, narrowed := true }
def FnExactCompareAbsUptoSaid : Prop := fnExactCompareAbsUptoRow.holds Try.pinned (OpenSpec.upto fnExactCompareAbsSpec)

end Rows
end Go.Proofs.Ytefmglofnoinmaa
