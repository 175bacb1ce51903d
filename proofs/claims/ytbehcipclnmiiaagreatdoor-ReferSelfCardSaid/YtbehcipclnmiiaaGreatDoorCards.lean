/-
  DERIVED. GIVEN WITH THE SEED: THE CARDS: each row of YtbehcipclnmiiaaGreatDoorRows.lean that lists a variable, with what it lists TIED to the program's text (the seventh form; the later family's looks); each row that meets fmt, with fmt's text TOLD by the authors' own Lean function (tested against real Go, not proved from fmt's source: count such statements apart). THE CARD IS WHAT COUNTS. Prove the row's statement (the work); the ties are given (YtbehcipclnmiiaaGreatDoorTie.lean); close each card by the builder's one call (the guide's Derived/Test/ToyasCard.lean, 'card_holds'). Laid BY PROGRAM, IN A SANDBOX (cutbox-door.mjs). By AI agents, Wed Nov 11 2026. No macro, syntax, notation, axiom, sorry.
-/
import Derived.Test.YtbehcipclnmiiaaGreatDoorRows
import GoSem.ClaimSeven
namespace Go.Proofs.YtbehcipclnmiiaaGreatDoor
namespace Rows

/-- THE TIED CARD OF 'postmarklaw17.ReferSelf'. -/
def referSelfCard : Claim7 := { stood := { row := referSelfRow, standIns := [], harness := (true, "596ea5ea4e42b5137af024c8a2334465f5397528435237083309275ce034bd18"), looks := true }, kinds := [], alts := [], laidByText := true, laidKinds := [.data, .data, .data, .data, .data, .pinned], laidTests := true, laidLooks := .later }
def ReferSelfCardSaid : Prop := Claim7.holds Tryz.pinned (.plain (OpenSpec.ofChange referSelfSpec)) referSelfCard

/-- THE SECOND FORM's CARD OF 'postmarklaw17.ReferSelf'. -/
def referSelfUptoCard : Claim7 := { stood := { row := referSelfUptoRow, standIns := [], harness := (true, "596ea5ea4e42b5137af024c8a2334465f5397528435237083309275ce034bd18"), looks := true }, kinds := [], alts := [], laidByText := true, laidKinds := [.data, .data, .data, .data, .data, .pinned], laidTests := true, laidLooks := .later }
def ReferSelfUptoCardSaid : Prop := Claim7.holds Tryz.pinned (.plain (OpenSpec.upto referSelfSpec)) referSelfUptoCard
end Rows
end Go.Proofs.YtbehcipclnmiiaaGreatDoor
