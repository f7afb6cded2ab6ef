/-
  DERIVED. GIVEN WITH THE SEED: THE CARDS: each row of YtfbffncbdddemaaDoorRows.lean that lists a variable, with what it lists TIED to the program's text (the seventh form; the later family's looks); each row that meets fmt, with fmt's text TOLD by the authors' own Lean function (tested against real Go, not proved from fmt's source: count such statements apart). THE CARD IS WHAT COUNTS. Prove the row's statement (the work); the ties are given (YtfbffncbdddemaaDoorTie.lean); close each card by the builder's one call (the guide's Derived/Test/ToyasCard.lean, 'card_holds'). Laid BY PROGRAM, IN A SANDBOX (cutbox-door.mjs). By AI agents, Wed Nov 11 2026. No macro, syntax, notation, axiom, sorry.
-/
import Derived.Test.YtfbffncbdddemaaDoorRows
import GoSem.ClaimSeven
namespace Go.Proofs.YtfbffncbdddemaaDoor
namespace Rows

/-- THE TIED CARD OF 'laws.FnRingText'. -/
def fnRingTextCard : Claim7 := { stood := { row := fnRingTextRow, standIns := [], harness := (true, "e98121962b567bcad7e524d11a8b96e8b39b10fbc15d2d8ed33e1348e574b424"), looks := true }, kinds := [], alts := [], laidByText := true, laidKinds := [.data, .data, .data, .data, .sentinel, .sentinel, .pinned], laidTests := true, laidLooks := .later }
def FnRingTextCardSaid : Prop := Claim7.holds Tryd.pinned (.plain (OpenSpec.ofChange fnRingTextSpec)) fnRingTextCard

/-- THE TIED CARD OF 'laws.FnExactParseRing'. -/
def fnExactParseRingCard : Claim7 := { stood := { row := fnExactParseRingRow, standIns := [], harness := (true, "e98121962b567bcad7e524d11a8b96e8b39b10fbc15d2d8ed33e1348e574b424"), looks := true }, kinds := [], alts := [], laidByText := true, laidKinds := [.data, .data, .data, .data, .sentinel, .sentinel, .pinned], laidTests := true, laidLooks := .later }
def FnExactParseRingCardSaid : Prop := Claim7.holds Tryd.pinned (.plain (OpenSpec.ofChange fnExactParseRingSpec)) fnExactParseRingCard

/-- THE TIED CARD OF 'laws.FnExactParseDyadic'. -/
def fnExactParseDyadicCard : Claim7 := { stood := { row := fnExactParseDyadicRow, standIns := [], harness := (true, "e98121962b567bcad7e524d11a8b96e8b39b10fbc15d2d8ed33e1348e574b424"), looks := true }, kinds := [], alts := [], laidByText := true, laidKinds := [.data, .data, .data, .data, .sentinel, .sentinel, .pinned], laidTests := true, laidLooks := .later }
def FnExactParseDyadicCardSaid : Prop := Claim7.holds Tryd.pinned (.plain (OpenSpec.ofChange fnExactParseDyadicSpec)) fnExactParseDyadicCard

/-- THE TIED CARD OF 'laws.FnExactFormatGate'. -/
def fnExactFormatGateCard : Claim7 := { stood := { row := fnExactFormatGateRow, standIns := [], harness := (true, "e98121962b567bcad7e524d11a8b96e8b39b10fbc15d2d8ed33e1348e574b424"), looks := true }, kinds := [], alts := [], laidByText := true, laidKinds := [.data, .data, .data, .data], laidTests := true, laidLooks := .later }
def FnExactFormatGateCardSaid : Prop := Claim7.holds Tryd.pinned (.plain (OpenSpec.ofChange fnExactFormatGateSpec)) fnExactFormatGateCard

/-- THE SECOND FORM's CARD OF 'laws.FnRingText'. -/
def fnRingTextUptoCard : Claim7 := { stood := { row := fnRingTextUptoRow, standIns := [], harness := (true, "e98121962b567bcad7e524d11a8b96e8b39b10fbc15d2d8ed33e1348e574b424"), looks := true }, kinds := [], alts := [], laidByText := true, laidKinds := [.data, .data, .data, .data, .sentinel, .sentinel, .pinned], laidTests := true, laidLooks := .later }
def FnRingTextUptoCardSaid : Prop := Claim7.holds Tryd.pinned (.plain (OpenSpec.upto fnRingTextSpec)) fnRingTextUptoCard

/-- THE SECOND FORM's CARD OF 'laws.FnExactParseRing'. -/
def fnExactParseRingUptoCard : Claim7 := { stood := { row := fnExactParseRingUptoRow, standIns := [], harness := (true, "e98121962b567bcad7e524d11a8b96e8b39b10fbc15d2d8ed33e1348e574b424"), looks := true }, kinds := [], alts := [], laidByText := true, laidKinds := [.data, .data, .data, .data, .sentinel, .sentinel, .pinned], laidTests := true, laidLooks := .later }
def FnExactParseRingUptoCardSaid : Prop := Claim7.holds Tryd.pinned (.plain (OpenSpec.upto fnExactParseRingSpec)) fnExactParseRingUptoCard

/-- THE SECOND FORM's CARD OF 'laws.FnExactParseDyadic'. -/
def fnExactParseDyadicUptoCard : Claim7 := { stood := { row := fnExactParseDyadicUptoRow, standIns := [], harness := (true, "e98121962b567bcad7e524d11a8b96e8b39b10fbc15d2d8ed33e1348e574b424"), looks := true }, kinds := [], alts := [], laidByText := true, laidKinds := [.data, .data, .data, .data, .sentinel, .sentinel, .pinned], laidTests := true, laidLooks := .later }
def FnExactParseDyadicUptoCardSaid : Prop := Claim7.holds Tryd.pinned (.plain (OpenSpec.upto fnExactParseDyadicSpec)) fnExactParseDyadicUptoCard

/-- THE SECOND FORM's CARD OF 'laws.FnExactFormatGate'. -/
def fnExactFormatGateUptoCard : Claim7 := { stood := { row := fnExactFormatGateUptoRow, standIns := [], harness := (true, "e98121962b567bcad7e524d11a8b96e8b39b10fbc15d2d8ed33e1348e574b424"), looks := true }, kinds := [], alts := [], laidByText := true, laidKinds := [.data, .data, .data, .data], laidTests := true, laidLooks := .later }
def FnExactFormatGateUptoCardSaid : Prop := Claim7.holds Tryd.pinned (.plain (OpenSpec.upto fnExactFormatGateSpec)) fnExactFormatGateUptoCard
end Rows
end Go.Proofs.YtfbffncbdddemaaDoor
