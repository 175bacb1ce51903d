/-
  DERIVED. GIVEN WITH THE SEED: THE CARDS: each row of YtgfhjigalefkmaaDoorRows.lean that lists a variable, with what it lists TIED to the program's text (the seventh form; the later family's looks); each row that meets fmt, with fmt's text TOLD by the authors' own Lean function (tested against real Go, not proved from fmt's source: count such statements apart). THE CARD IS WHAT COUNTS. Prove the row's statement (the work); the ties are given (YtgfhjigalefkmaaDoorTie.lean); close each card by the builder's one call (the guide's Derived/Test/ToyasCard.lean, 'card_holds'). Laid BY PROGRAM, IN A SANDBOX (cutbox-door.mjs). By AI agents, Wed Nov 11 2026. No macro, syntax, notation, axiom, sorry.
-/
import Derived.Test.YtgfhjigalefkmaaDoorRows
import GoSem.ClaimSeven
namespace Go.Proofs.YtgfhjigalefkmaaDoor
namespace Rows

/-- THE TIED CARD OF 'postmarklaw06.SixTells'. -/
def sixTellsCard : Claim7 := { stood := { row := sixTellsRow, standIns := [], harness := (true, "8002b7bbd1ebd2c3180b183eb1a81047a8c1ae51933cd720a8ad8464e87df89f"), looks := false }, kinds := [], alts := [], laidByText := true, laidKinds := [.data, .data, .data, .data, .pinned], laidTests := true, laidLooks := .later }
def SixTellsCardSaid : Prop := Claim7.holds Tryd.pinned (.plain (OpenSpec.ofChange sixTellsSpec)) sixTellsCard

/-- THE TIED CARD OF 'postmarklaw06.SixBack'. -/
def sixBackCard : Claim7 := { stood := { row := sixBackRow, standIns := [], harness := (true, "8002b7bbd1ebd2c3180b183eb1a81047a8c1ae51933cd720a8ad8464e87df89f"), looks := false }, kinds := [], alts := [], laidByText := true, laidKinds := [.data, .data, .data, .data, .pinned], laidTests := true, laidLooks := .later }
def SixBackCardSaid : Prop := Claim7.holds Tryd.pinned (.plain (OpenSpec.ofChange sixBackSpec)) sixBackCard

/-- THE TIED CARD OF 'postmarklaw06.SixApart'. -/
def sixApartCard : Claim7 := { stood := { row := sixApartRow, standIns := [], harness := (true, "8002b7bbd1ebd2c3180b183eb1a81047a8c1ae51933cd720a8ad8464e87df89f"), looks := false }, kinds := [], alts := [], laidByText := true, laidKinds := [.data, .data, .data, .data, .pinned], laidTests := true, laidLooks := .later }
def SixApartCardSaid : Prop := Claim7.holds Tryd.pinned (.plain (OpenSpec.ofChange sixApartSpec)) sixApartCard

/-- THE TIED CARD OF 'postmarklaw06.SixRun'. -/
def sixRunCard : Claim7 := { stood := { row := sixRunRow, standIns := [], harness := (true, "8002b7bbd1ebd2c3180b183eb1a81047a8c1ae51933cd720a8ad8464e87df89f"), looks := false }, kinds := [], alts := [], laidByText := true, laidKinds := [.data, .data, .data, .data, .pinned], laidTests := true, laidLooks := .later }
def SixRunCardSaid : Prop := Claim7.holds Tryd.pinned (.plain (OpenSpec.ofChange sixRunSpec)) sixRunCard

/-- THE TIED CARD OF 'postmarklaw06.SixZeros'. -/
def sixZerosCard : Claim7 := { stood := { row := sixZerosRow, standIns := [], harness := (true, "8002b7bbd1ebd2c3180b183eb1a81047a8c1ae51933cd720a8ad8464e87df89f"), looks := false }, kinds := [], alts := [], laidByText := true, laidKinds := [.data, .data, .data, .data, .pinned], laidTests := true, laidLooks := .later }
def SixZerosCardSaid : Prop := Claim7.holds Tryd.pinned (.plain (OpenSpec.ofChange sixZerosSpec)) sixZerosCard

/-- THE TIED CARD OF 'postmarklaw06.SixMay'. -/
def sixMayCard : Claim7 := { stood := { row := sixMayRow, standIns := [], harness := (true, "8002b7bbd1ebd2c3180b183eb1a81047a8c1ae51933cd720a8ad8464e87df89f"), looks := false }, kinds := [], alts := [], laidByText := true, laidKinds := [.data, .data, .data, .data, .pinned], laidTests := true, laidLooks := .later }
def SixMayCardSaid : Prop := Claim7.holds Tryd.pinned (.plain (OpenSpec.ofChange sixMaySpec)) sixMayCard

/-- THE SECOND FORM's CARD OF 'postmarklaw06.SixTells'. -/
def sixTellsUptoCard : Claim7 := { stood := { row := sixTellsUptoRow, standIns := [], harness := (true, "8002b7bbd1ebd2c3180b183eb1a81047a8c1ae51933cd720a8ad8464e87df89f"), looks := false }, kinds := [], alts := [], laidByText := true, laidKinds := [.data, .data, .data, .data, .pinned], laidTests := true, laidLooks := .later }
def SixTellsUptoCardSaid : Prop := Claim7.holds Tryd.pinned (.plain (OpenSpec.upto sixTellsSpec)) sixTellsUptoCard

/-- THE SECOND FORM's CARD OF 'postmarklaw06.SixBack'. -/
def sixBackUptoCard : Claim7 := { stood := { row := sixBackUptoRow, standIns := [], harness := (true, "8002b7bbd1ebd2c3180b183eb1a81047a8c1ae51933cd720a8ad8464e87df89f"), looks := false }, kinds := [], alts := [], laidByText := true, laidKinds := [.data, .data, .data, .data, .pinned], laidTests := true, laidLooks := .later }
def SixBackUptoCardSaid : Prop := Claim7.holds Tryd.pinned (.plain (OpenSpec.upto sixBackSpec)) sixBackUptoCard

/-- THE SECOND FORM's CARD OF 'postmarklaw06.SixApart'. -/
def sixApartUptoCard : Claim7 := { stood := { row := sixApartUptoRow, standIns := [], harness := (true, "8002b7bbd1ebd2c3180b183eb1a81047a8c1ae51933cd720a8ad8464e87df89f"), looks := false }, kinds := [], alts := [], laidByText := true, laidKinds := [.data, .data, .data, .data, .pinned], laidTests := true, laidLooks := .later }
def SixApartUptoCardSaid : Prop := Claim7.holds Tryd.pinned (.plain (OpenSpec.upto sixApartSpec)) sixApartUptoCard

/-- THE SECOND FORM's CARD OF 'postmarklaw06.SixRun'. -/
def sixRunUptoCard : Claim7 := { stood := { row := sixRunUptoRow, standIns := [], harness := (true, "8002b7bbd1ebd2c3180b183eb1a81047a8c1ae51933cd720a8ad8464e87df89f"), looks := false }, kinds := [], alts := [], laidByText := true, laidKinds := [.data, .data, .data, .data, .pinned], laidTests := true, laidLooks := .later }
def SixRunUptoCardSaid : Prop := Claim7.holds Tryd.pinned (.plain (OpenSpec.upto sixRunSpec)) sixRunUptoCard

/-- THE SECOND FORM's CARD OF 'postmarklaw06.SixZeros'. -/
def sixZerosUptoCard : Claim7 := { stood := { row := sixZerosUptoRow, standIns := [], harness := (true, "8002b7bbd1ebd2c3180b183eb1a81047a8c1ae51933cd720a8ad8464e87df89f"), looks := false }, kinds := [], alts := [], laidByText := true, laidKinds := [.data, .data, .data, .data, .pinned], laidTests := true, laidLooks := .later }
def SixZerosUptoCardSaid : Prop := Claim7.holds Tryd.pinned (.plain (OpenSpec.upto sixZerosSpec)) sixZerosUptoCard

/-- THE SECOND FORM's CARD OF 'postmarklaw06.SixMay'. -/
def sixMayUptoCard : Claim7 := { stood := { row := sixMayUptoRow, standIns := [], harness := (true, "8002b7bbd1ebd2c3180b183eb1a81047a8c1ae51933cd720a8ad8464e87df89f"), looks := false }, kinds := [], alts := [], laidByText := true, laidKinds := [.data, .data, .data, .data, .pinned], laidTests := true, laidLooks := .later }
def SixMayUptoCardSaid : Prop := Claim7.holds Tryd.pinned (.plain (OpenSpec.upto sixMaySpec)) sixMayUptoCard
end Rows
end Go.Proofs.YtgfhjigalefkmaaDoor
