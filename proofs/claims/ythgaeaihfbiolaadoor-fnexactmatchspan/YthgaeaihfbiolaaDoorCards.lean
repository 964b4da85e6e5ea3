/-
  DERIVED. GIVEN WITH THE SEED: THE CARDS: each row of YthgaeaihfbiolaaDoorRows.lean that lists a variable, with what it lists TIED to the program's text (the seventh form; the later family's looks); each row that meets fmt, with fmt's text TOLD by the authors' own Lean function (tested against real Go, not proved from fmt's source: count such statements apart). THE CARD IS WHAT COUNTS. Prove the row's statement (the work); the ties are given (YthgaeaihfbiolaaDoorTie.lean); close each card by the builder's one call (the guide's Derived/Test/ToyasCard.lean, 'card_holds'). Laid BY PROGRAM, IN A SANDBOX (cutbox-door.mjs). By AI agents, Wed Nov 11 2026. No macro, syntax, notation, axiom, sorry.
-/
import Derived.Test.YthgaeaihfbiolaaDoorRows
import GoSem.ClaimSeven
namespace Go.Proofs.YthgaeaihfbiolaaDoor
namespace Rows

/-- THE TIED CARD OF 'laws.FnExactMatchSpan'. -/
def fnExactMatchSpanCard : Claim7 := { stood := { row := fnExactMatchSpanRow, standIns := [], harness := (true, "34bfb600a57377178d225fe6da48f4ac2836e00f5dcc2e7ed599d9016df90484"), looks := true }, kinds := [], alts := [], laidByText := true, laidKinds := [.data], laidTests := true, laidLooks := .later }
def FnExactMatchSpanCardSaid : Prop := Claim7.holds Tryd.pinned (.plain (OpenSpec.ofChange fnExactMatchSpanSpec)) fnExactMatchSpanCard

/-- THE SECOND FORM's CARD OF 'laws.FnExactMatchSpan'. -/
def fnExactMatchSpanUptoCard : Claim7 := { stood := { row := fnExactMatchSpanUptoRow, standIns := [], harness := (true, "34bfb600a57377178d225fe6da48f4ac2836e00f5dcc2e7ed599d9016df90484"), looks := true }, kinds := [], alts := [], laidByText := true, laidKinds := [.data], laidTests := true, laidLooks := .later }
def FnExactMatchSpanUptoCardSaid : Prop := Claim7.holds Tryd.pinned (.plain (OpenSpec.upto fnExactMatchSpanSpec)) fnExactMatchSpanUptoCard
end Rows
end Go.Proofs.YthgaeaihfbiolaaDoor
