/-
  DERIVED. GIVEN WITH THE SEED: THE CARDS: each row of YtbofkmaajhfkeaaDoorRows.lean that lists a variable, with what it lists TIED to the program's text (the seventh form; the later family's looks); each row that meets fmt, with fmt's text TOLD by the authors' own Lean function (tested against real Go, not proved from fmt's source: count such statements apart). THE CARD IS WHAT COUNTS. Prove the row's statement (the work); the ties are given (YtbofkmaajhfkeaaDoorTie.lean); close each card by the builder's one call (the guide's Derived/Test/ToyasCard.lean, 'card_holds'). Laid BY PROGRAM, IN A SANDBOX (cutbox-door.mjs). By AI agents, Wed Nov 11 2026. No macro, syntax, notation, axiom, sorry.
-/
import Derived.Test.YtbofkmaajhfkeaaDoorRows
import GoSem.ClaimSeven
namespace Go.Proofs.YtbofkmaajhfkeaaDoor
namespace Rows

/-- THE TIED CARD OF 'postmarklaw08.PathBack'. -/
def pathBackCard : Claim7 := { stood := { row := pathBackRow, standIns := [], harness := (true, "fd69528daced50b4cd46c406d8bc2f67c57ce90d0a4768134fb2b9368b75dfc9"), looks := false }, kinds := [], alts := [], laidByText := true, laidKinds := [.data, .pinned], laidTests := true, laidLooks := .later }
def PathBackCardSaid : Prop := Claim7.holds Tryd.pinned (.plain (OpenSpec.ofChange pathBackSpec)) pathBackCard

/-- THE TIED CARD OF 'postmarklaw08.PathNorm'. -/
def pathNormCard : Claim7 := { stood := { row := pathNormRow, standIns := [], harness := (true, "fd69528daced50b4cd46c406d8bc2f67c57ce90d0a4768134fb2b9368b75dfc9"), looks := false }, kinds := [], alts := [], laidByText := true, laidKinds := [.data, .pinned], laidTests := true, laidLooks := .later }
def PathNormCardSaid : Prop := Claim7.holds Tryd.pinned (.plain (OpenSpec.ofChange pathNormSpec)) pathNormCard

/-- THE TIED CARD OF 'postmarklaw08.PathMerge'. -/
def pathMergeCard : Claim7 := { stood := { row := pathMergeRow, standIns := [], harness := (true, "fd69528daced50b4cd46c406d8bc2f67c57ce90d0a4768134fb2b9368b75dfc9"), looks := false }, kinds := [], alts := [], laidByText := true, laidKinds := [.data, .pinned], laidTests := true, laidLooks := .later }
def PathMergeCardSaid : Prop := Claim7.holds Tryd.pinned (.plain (OpenSpec.ofChange pathMergeSpec)) pathMergeCard

/-- THE TIED CARD OF 'postmarklaw08.PathParse'. -/
def pathParseCard : Claim7 := { stood := { row := pathParseRow, standIns := [], harness := (true, "fd69528daced50b4cd46c406d8bc2f67c57ce90d0a4768134fb2b9368b75dfc9"), looks := false }, kinds := [], alts := [], laidByText := true, laidKinds := [.data, .pinned], laidTests := true, laidLooks := .later }
def PathParseCardSaid : Prop := Claim7.holds Tryd.pinned (.plain (OpenSpec.ofChange pathParseSpec)) pathParseCard

/-- THE TIED CARD OF 'postmarklaw08.PathDots'. -/
def pathDotsCard : Claim7 := { stood := { row := pathDotsRow, standIns := [], harness := (true, "fd69528daced50b4cd46c406d8bc2f67c57ce90d0a4768134fb2b9368b75dfc9"), looks := false }, kinds := [], alts := [], laidByText := true, laidKinds := [.data, .pinned], laidTests := true, laidLooks := .later }
def PathDotsCardSaid : Prop := Claim7.holds Tryd.pinned (.plain (OpenSpec.ofChange pathDotsSpec)) pathDotsCard

/-- THE TIED CARD OF 'postmarklaw08.PathUp'. -/
def pathUpCard : Claim7 := { stood := { row := pathUpRow, standIns := [], harness := (true, "fd69528daced50b4cd46c406d8bc2f67c57ce90d0a4768134fb2b9368b75dfc9"), looks := false }, kinds := [], alts := [], laidByText := true, laidKinds := [.data, .pinned], laidTests := true, laidLooks := .later }
def PathUpCardSaid : Prop := Claim7.holds Tryd.pinned (.plain (OpenSpec.ofChange pathUpSpec)) pathUpCard

/-- THE SECOND FORM's CARD OF 'postmarklaw08.PathBack'. -/
def pathBackUptoCard : Claim7 := { stood := { row := pathBackUptoRow, standIns := [], harness := (true, "fd69528daced50b4cd46c406d8bc2f67c57ce90d0a4768134fb2b9368b75dfc9"), looks := false }, kinds := [], alts := [], laidByText := true, laidKinds := [.data, .pinned], laidTests := true, laidLooks := .later }
def PathBackUptoCardSaid : Prop := Claim7.holds Tryd.pinned (.plain (OpenSpec.upto pathBackSpec)) pathBackUptoCard

/-- THE SECOND FORM's CARD OF 'postmarklaw08.PathNorm'. -/
def pathNormUptoCard : Claim7 := { stood := { row := pathNormUptoRow, standIns := [], harness := (true, "fd69528daced50b4cd46c406d8bc2f67c57ce90d0a4768134fb2b9368b75dfc9"), looks := false }, kinds := [], alts := [], laidByText := true, laidKinds := [.data, .pinned], laidTests := true, laidLooks := .later }
def PathNormUptoCardSaid : Prop := Claim7.holds Tryd.pinned (.plain (OpenSpec.upto pathNormSpec)) pathNormUptoCard

/-- THE SECOND FORM's CARD OF 'postmarklaw08.PathMerge'. -/
def pathMergeUptoCard : Claim7 := { stood := { row := pathMergeUptoRow, standIns := [], harness := (true, "fd69528daced50b4cd46c406d8bc2f67c57ce90d0a4768134fb2b9368b75dfc9"), looks := false }, kinds := [], alts := [], laidByText := true, laidKinds := [.data, .pinned], laidTests := true, laidLooks := .later }
def PathMergeUptoCardSaid : Prop := Claim7.holds Tryd.pinned (.plain (OpenSpec.upto pathMergeSpec)) pathMergeUptoCard

/-- THE SECOND FORM's CARD OF 'postmarklaw08.PathParse'. -/
def pathParseUptoCard : Claim7 := { stood := { row := pathParseUptoRow, standIns := [], harness := (true, "fd69528daced50b4cd46c406d8bc2f67c57ce90d0a4768134fb2b9368b75dfc9"), looks := false }, kinds := [], alts := [], laidByText := true, laidKinds := [.data, .pinned], laidTests := true, laidLooks := .later }
def PathParseUptoCardSaid : Prop := Claim7.holds Tryd.pinned (.plain (OpenSpec.upto pathParseSpec)) pathParseUptoCard

/-- THE SECOND FORM's CARD OF 'postmarklaw08.PathDots'. -/
def pathDotsUptoCard : Claim7 := { stood := { row := pathDotsUptoRow, standIns := [], harness := (true, "fd69528daced50b4cd46c406d8bc2f67c57ce90d0a4768134fb2b9368b75dfc9"), looks := false }, kinds := [], alts := [], laidByText := true, laidKinds := [.data, .pinned], laidTests := true, laidLooks := .later }
def PathDotsUptoCardSaid : Prop := Claim7.holds Tryd.pinned (.plain (OpenSpec.upto pathDotsSpec)) pathDotsUptoCard

/-- THE SECOND FORM's CARD OF 'postmarklaw08.PathUp'. -/
def pathUpUptoCard : Claim7 := { stood := { row := pathUpUptoRow, standIns := [], harness := (true, "fd69528daced50b4cd46c406d8bc2f67c57ce90d0a4768134fb2b9368b75dfc9"), looks := false }, kinds := [], alts := [], laidByText := true, laidKinds := [.data, .pinned], laidTests := true, laidLooks := .later }
def PathUpUptoCardSaid : Prop := Claim7.holds Tryd.pinned (.plain (OpenSpec.upto pathUpSpec)) pathUpUptoCard
end Rows
end Go.Proofs.YtbofkmaajhfkeaaDoor
