/-
  DERIVED. GIVEN WITH THE SEED: THE CARDS: each row of YtkjkcgbmfglihaaGreatDoorRows.lean that lists a variable, with what it lists TIED to the program's text (the seventh form; the later family's looks); each row that meets fmt, with fmt's text TOLD by the authors' own Lean function (tested against real Go, not proved from fmt's source: count such statements apart). THE CARD IS WHAT COUNTS. Prove the row's statement (the work); the ties are given (YtkjkcgbmfglihaaGreatDoorTie.lean); close each card by the builder's one call (the guide's Derived/Test/ToyasCard.lean, 'card_holds'). Laid BY PROGRAM, IN A SANDBOX (cutbox-door.mjs). By AI agents, Wed Nov 11 2026. No macro, syntax, notation, axiom, sorry.
-/
import Derived.Test.YtkjkcgbmfglihaaGreatDoorRows
import GoSem.ClaimSeven
namespace Go.Proofs.YtkjkcgbmfglihaaGreatDoor
namespace Rows

/-- THE TIED CARD OF 'postmarklaw09.UrlTells'. -/
def urlTellsCard : Claim7 := { stood := { row := urlTellsRow, standIns := [], harness := (true, "d7e9cdab0152bacc27a6d85933213086465f1af1fa64f6ad998f06a64e2c85f1"), looks := true }, kinds := [], alts := [], laidByText := true, laidKinds := [.data, .data, .data, .data, .pinned], laidTests := true, laidLooks := .later }
def UrlTellsCardSaid : Prop := Claim7.holds Tryz.pinned (.plain (OpenSpec.ofChange urlTellsSpec)) urlTellsCard

/-- THE TIED CARD OF 'postmarklaw10.ShowTells'. -/
def showTellsCard : Claim7 := { stood := { row := showTellsRow, standIns := [], harness := (true, "d7e9cdab0152bacc27a6d85933213086465f1af1fa64f6ad998f06a64e2c85f1"), looks := true }, kinds := [], alts := [], laidByText := true, laidKinds := [.data, .data, .data, .data, .pinned], laidTests := true, laidLooks := .later }
def ShowTellsCardSaid : Prop := Claim7.holds Tryz.pinned (.plain (OpenSpec.ofChange showTellsSpec)) showTellsCard

/-- THE TIED CARD OF 'postmarklaw10.ShowBack'. -/
def showBackCard : Claim7 := { stood := { row := showBackRow, standIns := [], harness := (true, "d7e9cdab0152bacc27a6d85933213086465f1af1fa64f6ad998f06a64e2c85f1"), looks := true }, kinds := [], alts := [], laidByText := true, laidKinds := [.data, .data, .data, .data, .pinned], laidTests := true, laidLooks := .later }
def ShowBackCardSaid : Prop := Claim7.holds Tryz.pinned (.plain (OpenSpec.ofChange showBackSpec)) showBackCard

/-- THE TIED CARD OF 'postmarklaw10.ShowApart'. -/
def showApartCard : Claim7 := { stood := { row := showApartRow, standIns := [], harness := (true, "d7e9cdab0152bacc27a6d85933213086465f1af1fa64f6ad998f06a64e2c85f1"), looks := true }, kinds := [], alts := [], laidByText := true, laidKinds := [.data, .data, .data, .data, .pinned], laidTests := true, laidLooks := .later }
def ShowApartCardSaid : Prop := Claim7.holds Tryz.pinned (.plain (OpenSpec.ofChange showApartSpec)) showApartCard

/-- THE TIED CARD OF 'postmarklaw10.ShowOpen'. -/
def showOpenCard : Claim7 := { stood := { row := showOpenRow, standIns := [], harness := (true, "d7e9cdab0152bacc27a6d85933213086465f1af1fa64f6ad998f06a64e2c85f1"), looks := true }, kinds := [], alts := [], laidByText := true, laidKinds := [.data, .data, .data, .data, .pinned], laidTests := true, laidLooks := .later }
def ShowOpenCardSaid : Prop := Claim7.holds Tryz.pinned (.plain (OpenSpec.ofChange showOpenSpec)) showOpenCard

/-- THE TIED CARD OF 'postmarklaw10.ShowParts'. -/
def showPartsCard : Claim7 := { stood := { row := showPartsRow, standIns := [], harness := (true, "d7e9cdab0152bacc27a6d85933213086465f1af1fa64f6ad998f06a64e2c85f1"), looks := true }, kinds := [], alts := [], laidByText := true, laidKinds := [.data, .data, .data, .data, .pinned], laidTests := true, laidLooks := .later }
def ShowPartsCardSaid : Prop := Claim7.holds Tryz.pinned (.plain (OpenSpec.ofChange showPartsSpec)) showPartsCard

/-- THE TIED CARD OF 'postmarklaw10.ShowDoor'. -/
def showDoorCard : Claim7 := { stood := { row := showDoorRow, standIns := [], harness := (true, "d7e9cdab0152bacc27a6d85933213086465f1af1fa64f6ad998f06a64e2c85f1"), looks := true }, kinds := [], alts := [], laidByText := true, laidKinds := [.data, .data, .data, .data, .pinned], laidTests := true, laidLooks := .later }
def ShowDoorCardSaid : Prop := Claim7.holds Tryz.pinned (.plain (OpenSpec.ofChange showDoorSpec)) showDoorCard

/-- THE SECOND FORM's CARD OF 'postmarklaw09.UrlTells'. -/
def urlTellsUptoCard : Claim7 := { stood := { row := urlTellsUptoRow, standIns := [], harness := (true, "d7e9cdab0152bacc27a6d85933213086465f1af1fa64f6ad998f06a64e2c85f1"), looks := true }, kinds := [], alts := [], laidByText := true, laidKinds := [.data, .data, .data, .data, .pinned], laidTests := true, laidLooks := .later }
def UrlTellsUptoCardSaid : Prop := Claim7.holds Tryz.pinned (.plain (OpenSpec.upto urlTellsSpec)) urlTellsUptoCard

/-- THE SECOND FORM's CARD OF 'postmarklaw10.ShowTells'. -/
def showTellsUptoCard : Claim7 := { stood := { row := showTellsUptoRow, standIns := [], harness := (true, "d7e9cdab0152bacc27a6d85933213086465f1af1fa64f6ad998f06a64e2c85f1"), looks := true }, kinds := [], alts := [], laidByText := true, laidKinds := [.data, .data, .data, .data, .pinned], laidTests := true, laidLooks := .later }
def ShowTellsUptoCardSaid : Prop := Claim7.holds Tryz.pinned (.plain (OpenSpec.upto showTellsSpec)) showTellsUptoCard

/-- THE SECOND FORM's CARD OF 'postmarklaw10.ShowBack'. -/
def showBackUptoCard : Claim7 := { stood := { row := showBackUptoRow, standIns := [], harness := (true, "d7e9cdab0152bacc27a6d85933213086465f1af1fa64f6ad998f06a64e2c85f1"), looks := true }, kinds := [], alts := [], laidByText := true, laidKinds := [.data, .data, .data, .data, .pinned], laidTests := true, laidLooks := .later }
def ShowBackUptoCardSaid : Prop := Claim7.holds Tryz.pinned (.plain (OpenSpec.upto showBackSpec)) showBackUptoCard

/-- THE SECOND FORM's CARD OF 'postmarklaw10.ShowApart'. -/
def showApartUptoCard : Claim7 := { stood := { row := showApartUptoRow, standIns := [], harness := (true, "d7e9cdab0152bacc27a6d85933213086465f1af1fa64f6ad998f06a64e2c85f1"), looks := true }, kinds := [], alts := [], laidByText := true, laidKinds := [.data, .data, .data, .data, .pinned], laidTests := true, laidLooks := .later }
def ShowApartUptoCardSaid : Prop := Claim7.holds Tryz.pinned (.plain (OpenSpec.upto showApartSpec)) showApartUptoCard

/-- THE SECOND FORM's CARD OF 'postmarklaw10.ShowOpen'. -/
def showOpenUptoCard : Claim7 := { stood := { row := showOpenUptoRow, standIns := [], harness := (true, "d7e9cdab0152bacc27a6d85933213086465f1af1fa64f6ad998f06a64e2c85f1"), looks := true }, kinds := [], alts := [], laidByText := true, laidKinds := [.data, .data, .data, .data, .pinned], laidTests := true, laidLooks := .later }
def ShowOpenUptoCardSaid : Prop := Claim7.holds Tryz.pinned (.plain (OpenSpec.upto showOpenSpec)) showOpenUptoCard

/-- THE SECOND FORM's CARD OF 'postmarklaw10.ShowParts'. -/
def showPartsUptoCard : Claim7 := { stood := { row := showPartsUptoRow, standIns := [], harness := (true, "d7e9cdab0152bacc27a6d85933213086465f1af1fa64f6ad998f06a64e2c85f1"), looks := true }, kinds := [], alts := [], laidByText := true, laidKinds := [.data, .data, .data, .data, .pinned], laidTests := true, laidLooks := .later }
def ShowPartsUptoCardSaid : Prop := Claim7.holds Tryz.pinned (.plain (OpenSpec.upto showPartsSpec)) showPartsUptoCard

/-- THE SECOND FORM's CARD OF 'postmarklaw10.ShowDoor'. -/
def showDoorUptoCard : Claim7 := { stood := { row := showDoorUptoRow, standIns := [], harness := (true, "d7e9cdab0152bacc27a6d85933213086465f1af1fa64f6ad998f06a64e2c85f1"), looks := true }, kinds := [], alts := [], laidByText := true, laidKinds := [.data, .data, .data, .data, .pinned], laidTests := true, laidLooks := .later }
def ShowDoorUptoCardSaid : Prop := Claim7.holds Tryz.pinned (.plain (OpenSpec.upto showDoorSpec)) showDoorUptoCard
end Rows
end Go.Proofs.YtkjkcgbmfglihaaGreatDoor
