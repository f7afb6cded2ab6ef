/-
  DERIVED. GIVEN WITH THE SEED: THE CARDS: each row of YtofclfgaekjonaaDoorRows.lean that lists a variable, with what it lists TIED to the program's text (the seventh form; the later family's looks); each row that meets fmt, with fmt's text TOLD by the authors' own Lean function (tested against real Go, not proved from fmt's source: count such statements apart). THE CARD IS WHAT COUNTS. Prove the row's statement (the work); the ties are given (YtofclfgaekjonaaDoorTie.lean); close each card by the builder's one call (the guide's Derived/Test/ToyasCard.lean, 'card_holds'). Laid BY PROGRAM, IN A SANDBOX (cutbox-door.mjs). By AI agents, Wed Nov 11 2026. No macro, syntax, notation, axiom, sorry.
-/
import Derived.Test.YtofclfgaekjonaaDoorRows
import GoSem.ClaimSeven
namespace Go.Proofs.YtofclfgaekjonaaDoor
namespace Rows

/-- THE TIED CARD OF 'laws.FnExactCircuitOfForm'. -/
def fnExactCircuitOfFormCard : Claim7 := { stood := { row := fnExactCircuitOfFormRow, standIns := [], harness := (true, "e30bedfb35d428a05e7ac5d76db1fcf548227cab1d5fcf7f5bf1a1c6003312b9"), looks := true }, kinds := [], alts := [], laidByText := true, laidKinds := [.data], laidTests := true, laidLooks := .later }
def FnExactCircuitOfFormCardSaid : Prop := Claim7.holds Tryd.pinned (.plain (OpenSpec.ofChange fnExactCircuitOfFormSpec)) fnExactCircuitOfFormCard

/-- THE TIED CARD OF 'laws.FnExactFormatForm'. -/
def fnExactFormatFormCard : Claim7 := { stood := { row := fnExactFormatFormRow, standIns := [], harness := (true, "e30bedfb35d428a05e7ac5d76db1fcf548227cab1d5fcf7f5bf1a1c6003312b9"), looks := true }, kinds := [], alts := [], laidByText := true, laidKinds := [.data, .data, .data], laidTests := true, laidLooks := .later }
def FnExactFormatFormCardSaid : Prop := Claim7.holds Tryd.pinned (.plain (OpenSpec.ofChange fnExactFormatFormSpec)) fnExactFormatFormCard

/-- THE TIED CARD OF 'laws.FnExactParseForm'. -/
def fnExactParseFormCard : Claim7 := { stood := { row := fnExactParseFormRow, standIns := [], harness := (true, "e30bedfb35d428a05e7ac5d76db1fcf548227cab1d5fcf7f5bf1a1c6003312b9"), looks := true }, kinds := [], alts := [], laidByText := true, laidKinds := [.data, .data, .data, .sentinel, .sentinel], laidTests := true, laidLooks := .later }
def FnExactParseFormCardSaid : Prop := Claim7.holds Tryd.pinned (.plain (OpenSpec.ofChange fnExactParseFormSpec)) fnExactParseFormCard

/-- THE SECOND FORM's CARD OF 'laws.FnExactCircuitOfForm'. -/
def fnExactCircuitOfFormUptoCard : Claim7 := { stood := { row := fnExactCircuitOfFormUptoRow, standIns := [], harness := (true, "e30bedfb35d428a05e7ac5d76db1fcf548227cab1d5fcf7f5bf1a1c6003312b9"), looks := true }, kinds := [], alts := [], laidByText := true, laidKinds := [.data], laidTests := true, laidLooks := .later }
def FnExactCircuitOfFormUptoCardSaid : Prop := Claim7.holds Tryd.pinned (.plain (OpenSpec.upto fnExactCircuitOfFormSpec)) fnExactCircuitOfFormUptoCard

/-- THE SECOND FORM's CARD OF 'laws.FnExactFormatForm'. -/
def fnExactFormatFormUptoCard : Claim7 := { stood := { row := fnExactFormatFormUptoRow, standIns := [], harness := (true, "e30bedfb35d428a05e7ac5d76db1fcf548227cab1d5fcf7f5bf1a1c6003312b9"), looks := true }, kinds := [], alts := [], laidByText := true, laidKinds := [.data, .data, .data], laidTests := true, laidLooks := .later }
def FnExactFormatFormUptoCardSaid : Prop := Claim7.holds Tryd.pinned (.plain (OpenSpec.upto fnExactFormatFormSpec)) fnExactFormatFormUptoCard

/-- THE SECOND FORM's CARD OF 'laws.FnExactParseForm'. -/
def fnExactParseFormUptoCard : Claim7 := { stood := { row := fnExactParseFormUptoRow, standIns := [], harness := (true, "e30bedfb35d428a05e7ac5d76db1fcf548227cab1d5fcf7f5bf1a1c6003312b9"), looks := true }, kinds := [], alts := [], laidByText := true, laidKinds := [.data, .data, .data, .sentinel, .sentinel], laidTests := true, laidLooks := .later }
def FnExactParseFormUptoCardSaid : Prop := Claim7.holds Tryd.pinned (.plain (OpenSpec.upto fnExactParseFormSpec)) fnExactParseFormUptoCard
end Rows
end Go.Proofs.YtofclfgaekjonaaDoor
