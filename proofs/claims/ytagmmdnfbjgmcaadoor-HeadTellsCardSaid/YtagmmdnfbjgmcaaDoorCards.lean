/-
  DERIVED. GIVEN WITH THE SEED: THE CARDS: each row of YtagmmdnfbjgmcaaDoorRows.lean that lists a variable, with what it lists TIED to the program's text (the seventh form; the later family's looks); each row that meets fmt, with fmt's text TOLD by the authors' own Lean function (tested against real Go, not proved from fmt's source: count such statements apart). THE CARD IS WHAT COUNTS. Prove the row's statement (the work); the ties are given (YtagmmdnfbjgmcaaDoorTie.lean); close each card by the builder's one call (the guide's Derived/Test/ToyasCard.lean, 'card_holds'). Laid BY PROGRAM, IN A SANDBOX (cutbox-door.mjs). By AI agents, Wed Nov 11 2026. No macro, syntax, notation, axiom, sorry.
-/
import Derived.Test.YtagmmdnfbjgmcaaDoorRows
import GoSem.ClaimSeven
namespace Go.Proofs.YtagmmdnfbjgmcaaDoor
namespace Rows

/-- THE TIED CARD OF 'postmarklaw13.HeadTells'. -/
def headTellsCard : Claim7 := { stood := { row := headTellsRow, standIns := [], harness := (true, "0289239c515a2fe99f62bb4ddb38a38dd649b8e52b07336e833c28b42c19987c"), looks := false }, kinds := [], alts := [], laidByText := true, laidKinds := [.data, .pinned], laidTests := true, laidLooks := .later }
def HeadTellsCardSaid : Prop := Claim7.holds Tryd.pinned (.plain (OpenSpec.ofChange headTellsSpec)) headTellsCard

/-- THE TIED CARD OF 'postmarklaw13.HeadSet'. -/
def headSetCard : Claim7 := { stood := { row := headSetRow, standIns := [], harness := (true, "0289239c515a2fe99f62bb4ddb38a38dd649b8e52b07336e833c28b42c19987c"), looks := false }, kinds := [], alts := [], laidByText := true, laidKinds := [.data, .pinned], laidTests := true, laidLooks := .later }
def HeadSetCardSaid : Prop := Claim7.holds Tryd.pinned (.plain (OpenSpec.ofChange headSetSpec)) headSetCard

/-- THE TIED CARD OF 'postmarklaw13.HeadDrop'. -/
def headDropCard : Claim7 := { stood := { row := headDropRow, standIns := [], harness := (true, "0289239c515a2fe99f62bb4ddb38a38dd649b8e52b07336e833c28b42c19987c"), looks := false }, kinds := [], alts := [], laidByText := true, laidKinds := [.data, .pinned], laidTests := true, laidLooks := .later }
def HeadDropCardSaid : Prop := Claim7.holds Tryd.pinned (.plain (OpenSpec.ofChange headDropSpec)) headDropCard

/-- THE TIED CARD OF 'postmarklaw13.HeadParse'. -/
def headParseCard : Claim7 := { stood := { row := headParseRow, standIns := [], harness := (true, "0289239c515a2fe99f62bb4ddb38a38dd649b8e52b07336e833c28b42c19987c"), looks := false }, kinds := [], alts := [], laidByText := true, laidKinds := [.data, .pinned], laidTests := true, laidLooks := .later }
def HeadParseCardSaid : Prop := Claim7.holds Tryd.pinned (.plain (OpenSpec.ofChange headParseSpec)) headParseCard

/-- THE TIED CARD OF 'postmarklaw13.HeadGet'. -/
def headGetCard : Claim7 := { stood := { row := headGetRow, standIns := [], harness := (true, "0289239c515a2fe99f62bb4ddb38a38dd649b8e52b07336e833c28b42c19987c"), looks := false }, kinds := [], alts := [], laidByText := true, laidKinds := [.data, .pinned], laidTests := true, laidLooks := .later }
def HeadGetCardSaid : Prop := Claim7.holds Tryd.pinned (.plain (OpenSpec.ofChange headGetSpec)) headGetCard

/-- THE TIED CARD OF 'postmarklaw13.HeadName'. -/
def headNameCard : Claim7 := { stood := { row := headNameRow, standIns := [], harness := (true, "0289239c515a2fe99f62bb4ddb38a38dd649b8e52b07336e833c28b42c19987c"), looks := false }, kinds := [], alts := [], laidByText := true, laidKinds := [.data, .pinned], laidTests := true, laidLooks := .later }
def HeadNameCardSaid : Prop := Claim7.holds Tryd.pinned (.plain (OpenSpec.ofChange headNameSpec)) headNameCard

/-- THE SECOND FORM's CARD OF 'postmarklaw13.HeadTells'. -/
def headTellsUptoCard : Claim7 := { stood := { row := headTellsUptoRow, standIns := [], harness := (true, "0289239c515a2fe99f62bb4ddb38a38dd649b8e52b07336e833c28b42c19987c"), looks := false }, kinds := [], alts := [], laidByText := true, laidKinds := [.data, .pinned], laidTests := true, laidLooks := .later }
def HeadTellsUptoCardSaid : Prop := Claim7.holds Tryd.pinned (.plain (OpenSpec.upto headTellsSpec)) headTellsUptoCard

/-- THE SECOND FORM's CARD OF 'postmarklaw13.HeadSet'. -/
def headSetUptoCard : Claim7 := { stood := { row := headSetUptoRow, standIns := [], harness := (true, "0289239c515a2fe99f62bb4ddb38a38dd649b8e52b07336e833c28b42c19987c"), looks := false }, kinds := [], alts := [], laidByText := true, laidKinds := [.data, .pinned], laidTests := true, laidLooks := .later }
def HeadSetUptoCardSaid : Prop := Claim7.holds Tryd.pinned (.plain (OpenSpec.upto headSetSpec)) headSetUptoCard

/-- THE SECOND FORM's CARD OF 'postmarklaw13.HeadDrop'. -/
def headDropUptoCard : Claim7 := { stood := { row := headDropUptoRow, standIns := [], harness := (true, "0289239c515a2fe99f62bb4ddb38a38dd649b8e52b07336e833c28b42c19987c"), looks := false }, kinds := [], alts := [], laidByText := true, laidKinds := [.data, .pinned], laidTests := true, laidLooks := .later }
def HeadDropUptoCardSaid : Prop := Claim7.holds Tryd.pinned (.plain (OpenSpec.upto headDropSpec)) headDropUptoCard

/-- THE SECOND FORM's CARD OF 'postmarklaw13.HeadParse'. -/
def headParseUptoCard : Claim7 := { stood := { row := headParseUptoRow, standIns := [], harness := (true, "0289239c515a2fe99f62bb4ddb38a38dd649b8e52b07336e833c28b42c19987c"), looks := false }, kinds := [], alts := [], laidByText := true, laidKinds := [.data, .pinned], laidTests := true, laidLooks := .later }
def HeadParseUptoCardSaid : Prop := Claim7.holds Tryd.pinned (.plain (OpenSpec.upto headParseSpec)) headParseUptoCard

/-- THE SECOND FORM's CARD OF 'postmarklaw13.HeadGet'. -/
def headGetUptoCard : Claim7 := { stood := { row := headGetUptoRow, standIns := [], harness := (true, "0289239c515a2fe99f62bb4ddb38a38dd649b8e52b07336e833c28b42c19987c"), looks := false }, kinds := [], alts := [], laidByText := true, laidKinds := [.data, .pinned], laidTests := true, laidLooks := .later }
def HeadGetUptoCardSaid : Prop := Claim7.holds Tryd.pinned (.plain (OpenSpec.upto headGetSpec)) headGetUptoCard

/-- THE SECOND FORM's CARD OF 'postmarklaw13.HeadName'. -/
def headNameUptoCard : Claim7 := { stood := { row := headNameUptoRow, standIns := [], harness := (true, "0289239c515a2fe99f62bb4ddb38a38dd649b8e52b07336e833c28b42c19987c"), looks := false }, kinds := [], alts := [], laidByText := true, laidKinds := [.data, .pinned], laidTests := true, laidLooks := .later }
def HeadNameUptoCardSaid : Prop := Claim7.holds Tryd.pinned (.plain (OpenSpec.upto headNameSpec)) headNameUptoCard
end Rows
end Go.Proofs.YtagmmdnfbjgmcaaDoor
