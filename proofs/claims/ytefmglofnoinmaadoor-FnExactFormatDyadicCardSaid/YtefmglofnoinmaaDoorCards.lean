/-
  DERIVED. GIVEN WITH THE SEED: THE CARDS: each row of YtefmglofnoinmaaDoorRows.lean that lists a variable, with what it lists TIED to the program's text (the seventh form; the later family's looks); each row that meets fmt, with fmt's text TOLD by the authors' own Lean function (tested against real Go, not proved from fmt's source: count such statements apart). THE CARD IS WHAT COUNTS. Prove the row's statement (the work); the ties are given (YtefmglofnoinmaaDoorTie.lean); close each card by the builder's one call (the guide's Derived/Test/ToyasCard.lean, 'card_holds'). Laid BY PROGRAM, IN A SANDBOX (cutbox-door.mjs). By AI agents, Wed Nov 11 2026. No macro, syntax, notation, axiom, sorry.
-/
import Derived.Test.YtefmglofnoinmaaDoorRows
import GoSem.ClaimSeven
namespace Go.Proofs.YtefmglofnoinmaaDoor
namespace Rows

/-- THE TIED CARD OF 'laws.FnRingText'. -/
def fnRingTextCard : Claim7 := { stood := { row := fnRingTextRow, standIns := [], harness := (true, "994f0e8b920bf915cc9e9e850cc9ebf6d183022d6845abb93a284de465dee0fb"), looks := true }, kinds := [], alts := [], laidByText := true, laidKinds := [.data, .data, .data, .data, .sentinel, .sentinel, .pinned], laidTests := true, laidLooks := .later }
def FnRingTextCardSaid : Prop := Claim7.holds Tryd.pinned (.plain (OpenSpec.ofChange fnRingTextSpec)) fnRingTextCard

/-- THE TIED CARD OF 'laws.FnExactFormatRing'. -/
def fnExactFormatRingCard : Claim7 := { stood := { row := fnExactFormatRingRow, standIns := [], harness := (true, "994f0e8b920bf915cc9e9e850cc9ebf6d183022d6845abb93a284de465dee0fb"), looks := true }, kinds := [], alts := [], laidByText := true, laidKinds := [.data, .data, .data], laidTests := true, laidLooks := .later }
def FnExactFormatRingCardSaid : Prop := Claim7.holds Tryd.pinned (.plain (OpenSpec.ofChange fnExactFormatRingSpec)) fnExactFormatRingCard

/-- THE TIED CARD OF 'laws.FnExactParseRing'. -/
def fnExactParseRingCard : Claim7 := { stood := { row := fnExactParseRingRow, standIns := [], harness := (true, "994f0e8b920bf915cc9e9e850cc9ebf6d183022d6845abb93a284de465dee0fb"), looks := true }, kinds := [], alts := [], laidByText := true, laidKinds := [.data, .data, .data, .data, .sentinel, .sentinel, .pinned], laidTests := true, laidLooks := .later }
def FnExactParseRingCardSaid : Prop := Claim7.holds Tryd.pinned (.plain (OpenSpec.ofChange fnExactParseRingSpec)) fnExactParseRingCard

/-- THE TIED CARD OF 'laws.FnExactFormatDyadic'. -/
def fnExactFormatDyadicCard : Claim7 := { stood := { row := fnExactFormatDyadicRow, standIns := [], harness := (true, "994f0e8b920bf915cc9e9e850cc9ebf6d183022d6845abb93a284de465dee0fb"), looks := true }, kinds := [], alts := [], laidByText := true, laidKinds := [.data, .data, .data], laidTests := true, laidLooks := .later }
def FnExactFormatDyadicCardSaid : Prop := Claim7.holds Tryd.pinned (.plain (OpenSpec.ofChange fnExactFormatDyadicSpec)) fnExactFormatDyadicCard

/-- THE TIED CARD OF 'laws.FnExactParseDyadic'. -/
def fnExactParseDyadicCard : Claim7 := { stood := { row := fnExactParseDyadicRow, standIns := [], harness := (true, "994f0e8b920bf915cc9e9e850cc9ebf6d183022d6845abb93a284de465dee0fb"), looks := true }, kinds := [], alts := [], laidByText := true, laidKinds := [.data, .data, .data, .data, .sentinel, .sentinel, .pinned], laidTests := true, laidLooks := .later }
def FnExactParseDyadicCardSaid : Prop := Claim7.holds Tryd.pinned (.plain (OpenSpec.ofChange fnExactParseDyadicSpec)) fnExactParseDyadicCard

/-- THE SECOND FORM's CARD OF 'laws.FnRingText'. -/
def fnRingTextUptoCard : Claim7 := { stood := { row := fnRingTextUptoRow, standIns := [], harness := (true, "994f0e8b920bf915cc9e9e850cc9ebf6d183022d6845abb93a284de465dee0fb"), looks := true }, kinds := [], alts := [], laidByText := true, laidKinds := [.data, .data, .data, .data, .sentinel, .sentinel, .pinned], laidTests := true, laidLooks := .later }
def FnRingTextUptoCardSaid : Prop := Claim7.holds Tryd.pinned (.plain (OpenSpec.upto fnRingTextSpec)) fnRingTextUptoCard

/-- THE SECOND FORM's CARD OF 'laws.FnExactFormatRing'. -/
def fnExactFormatRingUptoCard : Claim7 := { stood := { row := fnExactFormatRingUptoRow, standIns := [], harness := (true, "994f0e8b920bf915cc9e9e850cc9ebf6d183022d6845abb93a284de465dee0fb"), looks := true }, kinds := [], alts := [], laidByText := true, laidKinds := [.data, .data, .data], laidTests := true, laidLooks := .later }
def FnExactFormatRingUptoCardSaid : Prop := Claim7.holds Tryd.pinned (.plain (OpenSpec.upto fnExactFormatRingSpec)) fnExactFormatRingUptoCard

/-- THE SECOND FORM's CARD OF 'laws.FnExactParseRing'. -/
def fnExactParseRingUptoCard : Claim7 := { stood := { row := fnExactParseRingUptoRow, standIns := [], harness := (true, "994f0e8b920bf915cc9e9e850cc9ebf6d183022d6845abb93a284de465dee0fb"), looks := true }, kinds := [], alts := [], laidByText := true, laidKinds := [.data, .data, .data, .data, .sentinel, .sentinel, .pinned], laidTests := true, laidLooks := .later }
def FnExactParseRingUptoCardSaid : Prop := Claim7.holds Tryd.pinned (.plain (OpenSpec.upto fnExactParseRingSpec)) fnExactParseRingUptoCard

/-- THE SECOND FORM's CARD OF 'laws.FnExactFormatDyadic'. -/
def fnExactFormatDyadicUptoCard : Claim7 := { stood := { row := fnExactFormatDyadicUptoRow, standIns := [], harness := (true, "994f0e8b920bf915cc9e9e850cc9ebf6d183022d6845abb93a284de465dee0fb"), looks := true }, kinds := [], alts := [], laidByText := true, laidKinds := [.data, .data, .data], laidTests := true, laidLooks := .later }
def FnExactFormatDyadicUptoCardSaid : Prop := Claim7.holds Tryd.pinned (.plain (OpenSpec.upto fnExactFormatDyadicSpec)) fnExactFormatDyadicUptoCard

/-- THE SECOND FORM's CARD OF 'laws.FnExactParseDyadic'. -/
def fnExactParseDyadicUptoCard : Claim7 := { stood := { row := fnExactParseDyadicUptoRow, standIns := [], harness := (true, "994f0e8b920bf915cc9e9e850cc9ebf6d183022d6845abb93a284de465dee0fb"), looks := true }, kinds := [], alts := [], laidByText := true, laidKinds := [.data, .data, .data, .data, .sentinel, .sentinel, .pinned], laidTests := true, laidLooks := .later }
def FnExactParseDyadicUptoCardSaid : Prop := Claim7.holds Tryd.pinned (.plain (OpenSpec.upto fnExactParseDyadicSpec)) fnExactParseDyadicUptoCard
end Rows
end Go.Proofs.YtefmglofnoinmaaDoor
