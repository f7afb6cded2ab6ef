/-
  DERIVED. GIVEN WITH THE SEED: THE CARDS: each row of YtdbnjoeanoiifaaDoorRows.lean that lists a variable, with what it lists TIED to the program's text (the seventh form; the later family's looks); each row that meets fmt, with fmt's text TOLD by the authors' own Lean function (tested against real Go, not proved from fmt's source: count such statements apart). THE CARD IS WHAT COUNTS. Prove the row's statement (the work); the ties are given (YtdbnjoeanoiifaaDoorTie.lean); close each card by the builder's one call (the guide's Derived/Test/ToyasCard.lean, 'card_holds'). Laid BY PROGRAM, IN A SANDBOX (cutbox-door.mjs). By AI agents, Wed Nov 11 2026. No macro, syntax, notation, axiom, sorry.
-/
import Derived.Test.YtdbnjoeanoiifaaDoorRows
import GoSem.ClaimSeven
namespace Go.Proofs.YtdbnjoeanoiifaaDoor
namespace Rows

/-- THE TIED CARD OF 'laws.FnRingText'. -/
def fnRingTextCard : Claim7 := { stood := { row := fnRingTextRow, standIns := [], harness := (true, "209f779075f0f88f5ef88cbc55f7487102bf66abf0e7471f55e99cd6c5bb9e6c"), looks := true }, kinds := [], alts := [], laidByText := true, laidKinds := [.data, .data, .data, .data, .sentinel, .sentinel, .pinned], laidTests := true, laidLooks := .later }
def FnRingTextCardSaid : Prop := Claim7.holds Tryd.pinned (.plain (OpenSpec.ofChange fnRingTextSpec)) fnRingTextCard

/-- THE TIED CARD OF 'laws.FnExactParseRing'. -/
def fnExactParseRingCard : Claim7 := { stood := { row := fnExactParseRingRow, standIns := [], harness := (true, "209f779075f0f88f5ef88cbc55f7487102bf66abf0e7471f55e99cd6c5bb9e6c"), looks := true }, kinds := [], alts := [], laidByText := true, laidKinds := [.data, .data, .data, .data, .sentinel, .sentinel, .pinned], laidTests := true, laidLooks := .later }
def FnExactParseRingCardSaid : Prop := Claim7.holds Tryd.pinned (.plain (OpenSpec.ofChange fnExactParseRingSpec)) fnExactParseRingCard

/-- THE TIED CARD OF 'laws.FnExactParseDyadic'. -/
def fnExactParseDyadicCard : Claim7 := { stood := { row := fnExactParseDyadicRow, standIns := [], harness := (true, "209f779075f0f88f5ef88cbc55f7487102bf66abf0e7471f55e99cd6c5bb9e6c"), looks := true }, kinds := [], alts := [], laidByText := true, laidKinds := [.data, .data, .data, .data, .sentinel, .sentinel, .pinned], laidTests := true, laidLooks := .later }
def FnExactParseDyadicCardSaid : Prop := Claim7.holds Tryd.pinned (.plain (OpenSpec.ofChange fnExactParseDyadicSpec)) fnExactParseDyadicCard

/-- THE TIED CARD OF 'laws.FnExactFormatCircuit'. -/
def fnExactFormatCircuitCard : Claim7 := { stood := { row := fnExactFormatCircuitRow, standIns := [], harness := (true, "209f779075f0f88f5ef88cbc55f7487102bf66abf0e7471f55e99cd6c5bb9e6c"), looks := true }, kinds := [], alts := [], laidByText := true, laidKinds := [.data, .data, .data, .data], laidTests := true, laidLooks := .later }
def FnExactFormatCircuitCardSaid : Prop := Claim7.holds Tryd.pinned (.plain (OpenSpec.ofChange fnExactFormatCircuitSpec)) fnExactFormatCircuitCard

/-- THE TIED CARD OF 'laws.FnExactFoldCircuit'. -/
def fnExactFoldCircuitCard : Claim7 := { stood := { row := fnExactFoldCircuitRow, standIns := [], harness := (true, "209f779075f0f88f5ef88cbc55f7487102bf66abf0e7471f55e99cd6c5bb9e6c"), looks := true }, kinds := [], alts := [], laidByText := true, laidKinds := [.data, .data, .data, .data], laidTests := true, laidLooks := .later }
def FnExactFoldCircuitCardSaid : Prop := Claim7.holds Tryd.pinned (.plain (OpenSpec.ofChange fnExactFoldCircuitSpec)) fnExactFoldCircuitCard

/-- THE SECOND FORM's CARD OF 'laws.FnRingText'. -/
def fnRingTextUptoCard : Claim7 := { stood := { row := fnRingTextUptoRow, standIns := [], harness := (true, "209f779075f0f88f5ef88cbc55f7487102bf66abf0e7471f55e99cd6c5bb9e6c"), looks := true }, kinds := [], alts := [], laidByText := true, laidKinds := [.data, .data, .data, .data, .sentinel, .sentinel, .pinned], laidTests := true, laidLooks := .later }
def FnRingTextUptoCardSaid : Prop := Claim7.holds Tryd.pinned (.plain (OpenSpec.upto fnRingTextSpec)) fnRingTextUptoCard

/-- THE SECOND FORM's CARD OF 'laws.FnExactParseRing'. -/
def fnExactParseRingUptoCard : Claim7 := { stood := { row := fnExactParseRingUptoRow, standIns := [], harness := (true, "209f779075f0f88f5ef88cbc55f7487102bf66abf0e7471f55e99cd6c5bb9e6c"), looks := true }, kinds := [], alts := [], laidByText := true, laidKinds := [.data, .data, .data, .data, .sentinel, .sentinel, .pinned], laidTests := true, laidLooks := .later }
def FnExactParseRingUptoCardSaid : Prop := Claim7.holds Tryd.pinned (.plain (OpenSpec.upto fnExactParseRingSpec)) fnExactParseRingUptoCard

/-- THE SECOND FORM's CARD OF 'laws.FnExactParseDyadic'. -/
def fnExactParseDyadicUptoCard : Claim7 := { stood := { row := fnExactParseDyadicUptoRow, standIns := [], harness := (true, "209f779075f0f88f5ef88cbc55f7487102bf66abf0e7471f55e99cd6c5bb9e6c"), looks := true }, kinds := [], alts := [], laidByText := true, laidKinds := [.data, .data, .data, .data, .sentinel, .sentinel, .pinned], laidTests := true, laidLooks := .later }
def FnExactParseDyadicUptoCardSaid : Prop := Claim7.holds Tryd.pinned (.plain (OpenSpec.upto fnExactParseDyadicSpec)) fnExactParseDyadicUptoCard

/-- THE SECOND FORM's CARD OF 'laws.FnExactFormatCircuit'. -/
def fnExactFormatCircuitUptoCard : Claim7 := { stood := { row := fnExactFormatCircuitUptoRow, standIns := [], harness := (true, "209f779075f0f88f5ef88cbc55f7487102bf66abf0e7471f55e99cd6c5bb9e6c"), looks := true }, kinds := [], alts := [], laidByText := true, laidKinds := [.data, .data, .data, .data], laidTests := true, laidLooks := .later }
def FnExactFormatCircuitUptoCardSaid : Prop := Claim7.holds Tryd.pinned (.plain (OpenSpec.upto fnExactFormatCircuitSpec)) fnExactFormatCircuitUptoCard

/-- THE SECOND FORM's CARD OF 'laws.FnExactFoldCircuit'. -/
def fnExactFoldCircuitUptoCard : Claim7 := { stood := { row := fnExactFoldCircuitUptoRow, standIns := [], harness := (true, "209f779075f0f88f5ef88cbc55f7487102bf66abf0e7471f55e99cd6c5bb9e6c"), looks := true }, kinds := [], alts := [], laidByText := true, laidKinds := [.data, .data, .data, .data], laidTests := true, laidLooks := .later }
def FnExactFoldCircuitUptoCardSaid : Prop := Claim7.holds Tryd.pinned (.plain (OpenSpec.upto fnExactFoldCircuitSpec)) fnExactFoldCircuitUptoCard
end Rows
end Go.Proofs.YtdbnjoeanoiifaaDoor
