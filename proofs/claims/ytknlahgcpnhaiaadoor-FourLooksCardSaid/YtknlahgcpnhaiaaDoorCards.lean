/-
  DERIVED. GIVEN WITH THE SEED: THE CARDS: each row of YtknlahgcpnhaiaaDoorRows.lean that lists a variable, with what it lists TIED to the program's text (the seventh form; the later family's looks); each row that meets fmt, with fmt's text TOLD by the authors' own Lean function (tested against real Go, not proved from fmt's source: count such statements apart). THE CARD IS WHAT COUNTS. Prove the row's statement (the work); the ties are given (YtknlahgcpnhaiaaDoorTie.lean); close each card by the builder's one call (the guide's Derived/Test/ToyasCard.lean, 'card_holds'). Laid BY PROGRAM, IN A SANDBOX (cutbox-door.mjs). By AI agents, Wed Nov 11 2026. No macro, syntax, notation, axiom, sorry.
-/
import Derived.Test.YtknlahgcpnhaiaaDoorRows
import GoSem.ClaimSeven
namespace Go.Proofs.YtknlahgcpnhaiaaDoor
namespace Rows

/-- THE TIED CARD OF 'postmarklaw05.FourTells'. -/
def fourTellsCard : Claim7 := { stood := { row := fourTellsRow, standIns := [], harness := (true, "8c19f22bd284c6db2767672cd5f4b0b30ba617b1796f54d0ba9bf886e696a537"), looks := false }, kinds := [], alts := [], laidByText := true, laidKinds := [.data, .pinned], laidTests := true, laidLooks := .later }
def FourTellsCardSaid : Prop := Claim7.holds Tryd.pinned (.plain (OpenSpec.ofChange fourTellsSpec)) fourTellsCard

/-- THE TIED CARD OF 'postmarklaw05.FourBack'. -/
def fourBackCard : Claim7 := { stood := { row := fourBackRow, standIns := [], harness := (true, "8c19f22bd284c6db2767672cd5f4b0b30ba617b1796f54d0ba9bf886e696a537"), looks := false }, kinds := [], alts := [], laidByText := true, laidKinds := [.data, .pinned], laidTests := true, laidLooks := .later }
def FourBackCardSaid : Prop := Claim7.holds Tryd.pinned (.plain (OpenSpec.ofChange fourBackSpec)) fourBackCard

/-- THE TIED CARD OF 'postmarklaw05.FourParts'. -/
def fourPartsCard : Claim7 := { stood := { row := fourPartsRow, standIns := [], harness := (true, "8c19f22bd284c6db2767672cd5f4b0b30ba617b1796f54d0ba9bf886e696a537"), looks := false }, kinds := [], alts := [], laidByText := true, laidKinds := [.data, .pinned], laidTests := true, laidLooks := .later }
def FourPartsCardSaid : Prop := Claim7.holds Tryd.pinned (.plain (OpenSpec.ofChange fourPartsSpec)) fourPartsCard

/-- THE TIED CARD OF 'postmarklaw05.FourLooks'. -/
def fourLooksCard : Claim7 := { stood := { row := fourLooksRow, standIns := [], harness := (true, "8c19f22bd284c6db2767672cd5f4b0b30ba617b1796f54d0ba9bf886e696a537"), looks := false }, kinds := [], alts := [], laidByText := true, laidKinds := [.data, .pinned], laidTests := true, laidLooks := .later }
def FourLooksCardSaid : Prop := Claim7.holds Tryd.pinned (.plain (OpenSpec.ofChange fourLooksSpec)) fourLooksCard

/-- THE TIED CARD OF 'postmarklaw05.FourOrder'. -/
def fourOrderCard : Claim7 := { stood := { row := fourOrderRow, standIns := [], harness := (true, "8c19f22bd284c6db2767672cd5f4b0b30ba617b1796f54d0ba9bf886e696a537"), looks := false }, kinds := [], alts := [], laidByText := true, laidKinds := [.data, .pinned], laidTests := true, laidLooks := .later }
def FourOrderCardSaid : Prop := Claim7.holds Tryd.pinned (.plain (OpenSpec.ofChange fourOrderSpec)) fourOrderCard

/-- THE SECOND FORM's CARD OF 'postmarklaw05.FourTells'. -/
def fourTellsUptoCard : Claim7 := { stood := { row := fourTellsUptoRow, standIns := [], harness := (true, "8c19f22bd284c6db2767672cd5f4b0b30ba617b1796f54d0ba9bf886e696a537"), looks := false }, kinds := [], alts := [], laidByText := true, laidKinds := [.data, .pinned], laidTests := true, laidLooks := .later }
def FourTellsUptoCardSaid : Prop := Claim7.holds Tryd.pinned (.plain (OpenSpec.upto fourTellsSpec)) fourTellsUptoCard

/-- THE SECOND FORM's CARD OF 'postmarklaw05.FourBack'. -/
def fourBackUptoCard : Claim7 := { stood := { row := fourBackUptoRow, standIns := [], harness := (true, "8c19f22bd284c6db2767672cd5f4b0b30ba617b1796f54d0ba9bf886e696a537"), looks := false }, kinds := [], alts := [], laidByText := true, laidKinds := [.data, .pinned], laidTests := true, laidLooks := .later }
def FourBackUptoCardSaid : Prop := Claim7.holds Tryd.pinned (.plain (OpenSpec.upto fourBackSpec)) fourBackUptoCard

/-- THE SECOND FORM's CARD OF 'postmarklaw05.FourParts'. -/
def fourPartsUptoCard : Claim7 := { stood := { row := fourPartsUptoRow, standIns := [], harness := (true, "8c19f22bd284c6db2767672cd5f4b0b30ba617b1796f54d0ba9bf886e696a537"), looks := false }, kinds := [], alts := [], laidByText := true, laidKinds := [.data, .pinned], laidTests := true, laidLooks := .later }
def FourPartsUptoCardSaid : Prop := Claim7.holds Tryd.pinned (.plain (OpenSpec.upto fourPartsSpec)) fourPartsUptoCard

/-- THE SECOND FORM's CARD OF 'postmarklaw05.FourLooks'. -/
def fourLooksUptoCard : Claim7 := { stood := { row := fourLooksUptoRow, standIns := [], harness := (true, "8c19f22bd284c6db2767672cd5f4b0b30ba617b1796f54d0ba9bf886e696a537"), looks := false }, kinds := [], alts := [], laidByText := true, laidKinds := [.data, .pinned], laidTests := true, laidLooks := .later }
def FourLooksUptoCardSaid : Prop := Claim7.holds Tryd.pinned (.plain (OpenSpec.upto fourLooksSpec)) fourLooksUptoCard

/-- THE SECOND FORM's CARD OF 'postmarklaw05.FourOrder'. -/
def fourOrderUptoCard : Claim7 := { stood := { row := fourOrderUptoRow, standIns := [], harness := (true, "8c19f22bd284c6db2767672cd5f4b0b30ba617b1796f54d0ba9bf886e696a537"), looks := false }, kinds := [], alts := [], laidByText := true, laidKinds := [.data, .pinned], laidTests := true, laidLooks := .later }
def FourOrderUptoCardSaid : Prop := Claim7.holds Tryd.pinned (.plain (OpenSpec.upto fourOrderSpec)) fourOrderUptoCard
end Rows
end Go.Proofs.YtknlahgcpnhaiaaDoor
