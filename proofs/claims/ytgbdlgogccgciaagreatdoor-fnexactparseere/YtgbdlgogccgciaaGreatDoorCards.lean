/-
  DERIVED. GIVEN WITH THE SEED: THE CARDS: each row of YtgbdlgogccgciaaGreatDoorRows.lean that lists a variable, with what it lists TIED to the program's text (the seventh form; the later family's looks); each row that meets fmt, with fmt's text TOLD by the authors' own Lean function (tested against real Go, not proved from fmt's source: count such statements apart). THE CARD IS WHAT COUNTS. Prove the row's statement (the work); the ties are given (YtgbdlgogccgciaaGreatDoorTie.lean); close each card by the builder's one call (the guide's Derived/Test/ToyasCard.lean, 'card_holds'). Laid BY PROGRAM, IN A SANDBOX (cutbox-door.mjs). By AI agents, Wed Nov 11 2026. No macro, syntax, notation, axiom, sorry.
-/
import Derived.Test.YtgbdlgogccgciaaGreatDoorRows
import GoSem.ClaimSeven
namespace Go.Proofs.YtgbdlgogccgciaaGreatDoor
namespace Rows

/-- THE TIED CARD OF 'laws.FnExactParseERE'. -/
def fnExactParseERECard : Claim7 := { stood := { row := fnExactParseERERow, standIns := [], harness := (true, "1ebd18c5c0be040ef3acbea2460f64045a2bdd02f3f5d2b512f5f029258fc961"), looks := true }, kinds := [], alts := [], laidByText := true, laidKinds := [.handle], laidTests := true, laidLooks := .later }
def FnExactParseERECardSaid : Prop := Claim7.holds Tryz.pinned (.plain (OpenSpec.ofChange fnExactParseERESpec)) fnExactParseERECard

/-- THE SECOND FORM's CARD OF 'laws.FnExactParseERE'. -/
def fnExactParseEREUptoCard : Claim7 := { stood := { row := fnExactParseEREUptoRow, standIns := [], harness := (true, "1ebd18c5c0be040ef3acbea2460f64045a2bdd02f3f5d2b512f5f029258fc961"), looks := true }, kinds := [], alts := [], laidByText := true, laidKinds := [.handle], laidTests := true, laidLooks := .later }
def FnExactParseEREUptoCardSaid : Prop := Claim7.holds Tryz.pinned (.plain (OpenSpec.upto fnExactParseERESpec)) fnExactParseEREUptoCard
end Rows
end Go.Proofs.YtgbdlgogccgciaaGreatDoor
