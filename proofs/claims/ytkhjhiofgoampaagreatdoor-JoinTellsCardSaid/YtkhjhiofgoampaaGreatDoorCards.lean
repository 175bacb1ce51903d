/-
  DERIVED. GIVEN WITH THE SEED: THE CARDS: each row of YtkhjhiofgoampaaGreatDoorRows.lean that lists a variable, with what it lists TIED to the program's text (the seventh form; the later family's looks); each row that meets fmt, with fmt's text TOLD by the authors' own Lean function (tested against real Go, not proved from fmt's source: count such statements apart). THE CARD IS WHAT COUNTS. Prove the row's statement (the work); the ties are given (YtkhjhiofgoampaaGreatDoorTie.lean); close each card by the builder's one call (the guide's Derived/Test/ToyasCard.lean, 'card_holds'). Laid BY PROGRAM, IN A SANDBOX (cutbox-door.mjs). By AI agents, Wed Nov 11 2026. No macro, syntax, notation, axiom, sorry.
-/
import Derived.Test.YtkhjhiofgoampaaGreatDoorRows
import GoSem.ClaimSeven
namespace Go.Proofs.YtkhjhiofgoampaaGreatDoor
namespace Rows

/-- THE TIED CARD OF 'postmarklaw11.JoinTells'. -/
def joinTellsCard : Claim7 := { stood := { row := joinTellsRow, standIns := [], harness := (true, "11e426a62124d78695d2c06559531c5ccda76f223cef181fc1ba5590ca83ced5"), looks := true }, kinds := [], alts := [], laidByText := true, laidKinds := [.data, .data, .data, .data, .pinned], laidTests := true, laidLooks := .later }
def JoinTellsCardSaid : Prop := Claim7.holds Tryz.pinned (.plain (OpenSpec.ofChange joinTellsSpec)) joinTellsCard

/-- THE TIED CARD OF 'postmarklaw11.JoinMay'. -/
def joinMayCard : Claim7 := { stood := { row := joinMayRow, standIns := [], harness := (true, "11e426a62124d78695d2c06559531c5ccda76f223cef181fc1ba5590ca83ced5"), looks := true }, kinds := [], alts := [], laidByText := true, laidKinds := [.data, .data, .data, .data, .pinned], laidTests := true, laidLooks := .later }
def JoinMayCardSaid : Prop := Claim7.holds Tryz.pinned (.plain (OpenSpec.ofChange joinMaySpec)) joinMayCard

/-- THE TIED CARD OF 'postmarklaw11.JoinSelf'. -/
def joinSelfCard : Claim7 := { stood := { row := joinSelfRow, standIns := [], harness := (true, "11e426a62124d78695d2c06559531c5ccda76f223cef181fc1ba5590ca83ced5"), looks := true }, kinds := [], alts := [], laidByText := true, laidKinds := [.data, .data, .data, .data, .pinned], laidTests := true, laidLooks := .later }
def JoinSelfCardSaid : Prop := Claim7.holds Tryz.pinned (.plain (OpenSpec.ofChange joinSelfSpec)) joinSelfCard

/-- THE TIED CARD OF 'postmarklaw11.JoinPath'. -/
def joinPathCard : Claim7 := { stood := { row := joinPathRow, standIns := [], harness := (true, "11e426a62124d78695d2c06559531c5ccda76f223cef181fc1ba5590ca83ced5"), looks := true }, kinds := [], alts := [], laidByText := true, laidKinds := [.data, .data, .data, .data, .pinned], laidTests := true, laidLooks := .later }
def JoinPathCardSaid : Prop := Claim7.holds Tryz.pinned (.plain (OpenSpec.ofChange joinPathSpec)) joinPathCard

/-- THE TIED CARD OF 'postmarklaw11.JoinQuery'. -/
def joinQueryCard : Claim7 := { stood := { row := joinQueryRow, standIns := [], harness := (true, "11e426a62124d78695d2c06559531c5ccda76f223cef181fc1ba5590ca83ced5"), looks := true }, kinds := [], alts := [], laidByText := true, laidKinds := [.data, .data, .data, .data, .pinned], laidTests := true, laidLooks := .later }
def JoinQueryCardSaid : Prop := Claim7.holds Tryz.pinned (.plain (OpenSpec.ofChange joinQuerySpec)) joinQueryCard

/-- THE TIED CARD OF 'postmarklaw11.JoinInherit'. -/
def joinInheritCard : Claim7 := { stood := { row := joinInheritRow, standIns := [], harness := (true, "11e426a62124d78695d2c06559531c5ccda76f223cef181fc1ba5590ca83ced5"), looks := true }, kinds := [], alts := [], laidByText := true, laidKinds := [.data, .data, .data, .data, .pinned], laidTests := true, laidLooks := .later }
def JoinInheritCardSaid : Prop := Claim7.holds Tryz.pinned (.plain (OpenSpec.ofChange joinInheritSpec)) joinInheritCard

/-- THE SECOND FORM's CARD OF 'postmarklaw11.JoinTells'. -/
def joinTellsUptoCard : Claim7 := { stood := { row := joinTellsUptoRow, standIns := [], harness := (true, "11e426a62124d78695d2c06559531c5ccda76f223cef181fc1ba5590ca83ced5"), looks := true }, kinds := [], alts := [], laidByText := true, laidKinds := [.data, .data, .data, .data, .pinned], laidTests := true, laidLooks := .later }
def JoinTellsUptoCardSaid : Prop := Claim7.holds Tryz.pinned (.plain (OpenSpec.upto joinTellsSpec)) joinTellsUptoCard

/-- THE SECOND FORM's CARD OF 'postmarklaw11.JoinMay'. -/
def joinMayUptoCard : Claim7 := { stood := { row := joinMayUptoRow, standIns := [], harness := (true, "11e426a62124d78695d2c06559531c5ccda76f223cef181fc1ba5590ca83ced5"), looks := true }, kinds := [], alts := [], laidByText := true, laidKinds := [.data, .data, .data, .data, .pinned], laidTests := true, laidLooks := .later }
def JoinMayUptoCardSaid : Prop := Claim7.holds Tryz.pinned (.plain (OpenSpec.upto joinMaySpec)) joinMayUptoCard

/-- THE SECOND FORM's CARD OF 'postmarklaw11.JoinSelf'. -/
def joinSelfUptoCard : Claim7 := { stood := { row := joinSelfUptoRow, standIns := [], harness := (true, "11e426a62124d78695d2c06559531c5ccda76f223cef181fc1ba5590ca83ced5"), looks := true }, kinds := [], alts := [], laidByText := true, laidKinds := [.data, .data, .data, .data, .pinned], laidTests := true, laidLooks := .later }
def JoinSelfUptoCardSaid : Prop := Claim7.holds Tryz.pinned (.plain (OpenSpec.upto joinSelfSpec)) joinSelfUptoCard

/-- THE SECOND FORM's CARD OF 'postmarklaw11.JoinPath'. -/
def joinPathUptoCard : Claim7 := { stood := { row := joinPathUptoRow, standIns := [], harness := (true, "11e426a62124d78695d2c06559531c5ccda76f223cef181fc1ba5590ca83ced5"), looks := true }, kinds := [], alts := [], laidByText := true, laidKinds := [.data, .data, .data, .data, .pinned], laidTests := true, laidLooks := .later }
def JoinPathUptoCardSaid : Prop := Claim7.holds Tryz.pinned (.plain (OpenSpec.upto joinPathSpec)) joinPathUptoCard

/-- THE SECOND FORM's CARD OF 'postmarklaw11.JoinQuery'. -/
def joinQueryUptoCard : Claim7 := { stood := { row := joinQueryUptoRow, standIns := [], harness := (true, "11e426a62124d78695d2c06559531c5ccda76f223cef181fc1ba5590ca83ced5"), looks := true }, kinds := [], alts := [], laidByText := true, laidKinds := [.data, .data, .data, .data, .pinned], laidTests := true, laidLooks := .later }
def JoinQueryUptoCardSaid : Prop := Claim7.holds Tryz.pinned (.plain (OpenSpec.upto joinQuerySpec)) joinQueryUptoCard

/-- THE SECOND FORM's CARD OF 'postmarklaw11.JoinInherit'. -/
def joinInheritUptoCard : Claim7 := { stood := { row := joinInheritUptoRow, standIns := [], harness := (true, "11e426a62124d78695d2c06559531c5ccda76f223cef181fc1ba5590ca83ced5"), looks := true }, kinds := [], alts := [], laidByText := true, laidKinds := [.data, .data, .data, .data, .pinned], laidTests := true, laidLooks := .later }
def JoinInheritUptoCardSaid : Prop := Claim7.holds Tryz.pinned (.plain (OpenSpec.upto joinInheritSpec)) joinInheritUptoCard
end Rows
end Go.Proofs.YtkhjhiofgoampaaGreatDoor
