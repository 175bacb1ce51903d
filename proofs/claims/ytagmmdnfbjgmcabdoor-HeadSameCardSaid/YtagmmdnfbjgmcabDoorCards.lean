/-
  DERIVED. GIVEN WITH THE SEED: THE CARDS: each row of YtagmmdnfbjgmcabDoorRows.lean that lists a variable, with what it lists TIED to the program's text (the seventh form; the later family's looks); each row that meets fmt, with fmt's text TOLD by the authors' own Lean function (tested against real Go, not proved from fmt's source: count such statements apart). THE CARD IS WHAT COUNTS. Prove the row's statement (the work); the ties are given (YtagmmdnfbjgmcabDoorTie.lean); close each card by the builder's one call (the guide's Derived/Test/ToyasCard.lean, 'card_holds'). Laid BY PROGRAM, IN A SANDBOX (cutbox-door.mjs). By AI agents, Wed Nov 11 2026. No macro, syntax, notation, axiom, sorry.
-/
import Derived.Test.YtagmmdnfbjgmcabDoorRows
import GoSem.ClaimSeven
namespace Go.Proofs.YtagmmdnfbjgmcabDoor
namespace Rows

/-- THE TIED CARD OF 'postmarklaw13.HeadSame'. -/
def headSameCard : Claim7 := { stood := { row := headSameRow, standIns := [], harness := (true, "58a9ab91909e27afe87215cecd56043cc10187a108a7d990fed43d6b63b3f112"), looks := false }, kinds := [], alts := [], laidByText := true, laidKinds := [.data, .pinned], laidTests := true, laidLooks := .later }
def HeadSameCardSaid : Prop := Claim7.holds Tryd.pinned (.plain (OpenSpec.ofChange headSameSpec)) headSameCard

/-- THE SECOND FORM's CARD OF 'postmarklaw13.HeadSame'. -/
def headSameUptoCard : Claim7 := { stood := { row := headSameUptoRow, standIns := [], harness := (true, "58a9ab91909e27afe87215cecd56043cc10187a108a7d990fed43d6b63b3f112"), looks := false }, kinds := [], alts := [], laidByText := true, laidKinds := [.data, .pinned], laidTests := true, laidLooks := .later }
def HeadSameUptoCardSaid : Prop := Claim7.holds Tryd.pinned (.plain (OpenSpec.upto headSameSpec)) headSameUptoCard
end Rows
end Go.Proofs.YtagmmdnfbjgmcabDoor
