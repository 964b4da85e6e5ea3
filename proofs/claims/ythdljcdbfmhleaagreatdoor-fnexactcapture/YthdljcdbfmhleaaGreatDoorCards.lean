/-
  DERIVED. GIVEN WITH THE SEED: THE CARDS: each row of YthdljcdbfmhleaaGreatDoorRows.lean that lists a variable, with what it lists TIED to the program's text (the seventh form; the later family's looks); each row that meets fmt, with fmt's text TOLD by the authors' own Lean function (tested against real Go, not proved from fmt's source: count such statements apart). THE CARD IS WHAT COUNTS. Prove the row's statement (the work); the ties are given (YthdljcdbfmhleaaGreatDoorTie.lean); close each card by the builder's one call (the guide's Derived/Test/ToyasCard.lean, 'card_holds'). Laid BY PROGRAM, IN A SANDBOX (cutbox-door.mjs). By AI agents, Wed Nov 11 2026. No macro, syntax, notation, axiom, sorry.
-/
import Derived.Test.YthdljcdbfmhleaaGreatDoorRows
import GoSem.ClaimSeven
namespace Go.Proofs.YthdljcdbfmhleaaGreatDoor
namespace Rows

/-- THE TIED CARD OF 'laws.FnExactCapture'. -/
def fnExactCaptureCard : Claim7 := { stood := { row := fnExactCaptureRow, standIns := [], harness := (true, "4403c6504411892f67e1da57870a90ebdb1a8b7cf68fc3f89d0c7bf05bb3c54b"), looks := true }, kinds := [], alts := [], laidByText := true, laidKinds := [.data], laidTests := true, laidLooks := .later }
def FnExactCaptureCardSaid : Prop := Claim7.holds Tryz.pinned (.plain (OpenSpec.ofChange fnExactCaptureSpec)) fnExactCaptureCard

/-- THE SECOND FORM's CARD OF 'laws.FnExactCapture'. -/
def fnExactCaptureUptoCard : Claim7 := { stood := { row := fnExactCaptureUptoRow, standIns := [], harness := (true, "4403c6504411892f67e1da57870a90ebdb1a8b7cf68fc3f89d0c7bf05bb3c54b"), looks := true }, kinds := [], alts := [], laidByText := true, laidKinds := [.data], laidTests := true, laidLooks := .later }
def FnExactCaptureUptoCardSaid : Prop := Claim7.holds Tryz.pinned (.plain (OpenSpec.upto fnExactCaptureSpec)) fnExactCaptureUptoCard
end Rows
end Go.Proofs.YthdljcdbfmhleaaGreatDoor
