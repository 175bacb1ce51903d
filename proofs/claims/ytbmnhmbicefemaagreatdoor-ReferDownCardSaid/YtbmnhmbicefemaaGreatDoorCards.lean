/-
  DERIVED. GIVEN WITH THE SEED: THE CARDS: each row of YtbmnhmbicefemaaGreatDoorRows.lean that lists a variable, with what it lists TIED to the program's text (the seventh form; the later family's looks); each row that meets fmt, with fmt's text TOLD by the authors' own Lean function (tested against real Go, not proved from fmt's source: count such statements apart). THE CARD IS WHAT COUNTS. Prove the row's statement (the work); the ties are given (YtbmnhmbicefemaaGreatDoorTie.lean); close each card by the builder's one call (the guide's Derived/Test/ToyasCard.lean, 'card_holds'). Laid BY PROGRAM, IN A SANDBOX (cutbox-door.mjs). By AI agents, Wed Nov 11 2026. No macro, syntax, notation, axiom, sorry.
-/
import Derived.Test.YtbmnhmbicefemaaGreatDoorRows
import GoSem.ClaimSeven
namespace Go.Proofs.YtbmnhmbicefemaaGreatDoor
namespace Rows

/-- THE TIED CARD OF 'postmarklaw17.ReferTells'. -/
def referTellsCard : Claim7 := { stood := { row := referTellsRow, standIns := [], harness := (true, "2bcd7a715fca6dd5181272695f0fcae1acf886a05b57d1fafdb5b42307683625"), looks := true }, kinds := [], alts := [], laidByText := true, laidKinds := [.data, .data, .pinned], laidTests := true, laidLooks := .later }
def ReferTellsCardSaid : Prop := Claim7.holds Tryz.pinned (.plain (OpenSpec.ofChange referTellsSpec)) referTellsCard

/-- THE TIED CARD OF 'postmarklaw17.ReferMost'. -/
def referMostCard : Claim7 := { stood := { row := referMostRow, standIns := [], harness := (true, "2bcd7a715fca6dd5181272695f0fcae1acf886a05b57d1fafdb5b42307683625"), looks := true }, kinds := [], alts := [], laidByText := true, laidKinds := [.data, .data, .pinned], laidTests := true, laidLooks := .later }
def ReferMostCardSaid : Prop := Claim7.holds Tryz.pinned (.plain (OpenSpec.ofChange referMostSpec)) referMostCard

/-- THE TIED CARD OF 'postmarklaw17.ReferBlind'. -/
def referBlindCard : Claim7 := { stood := { row := referBlindRow, standIns := [], harness := (true, "2bcd7a715fca6dd5181272695f0fcae1acf886a05b57d1fafdb5b42307683625"), looks := true }, kinds := [], alts := [], laidByText := true, laidKinds := [.data, .data, .pinned], laidTests := true, laidLooks := .later }
def ReferBlindCardSaid : Prop := Claim7.holds Tryz.pinned (.plain (OpenSpec.ofChange referBlindSpec)) referBlindCard

/-- THE TIED CARD OF 'postmarklaw17.ReferStrict'. -/
def referStrictCard : Claim7 := { stood := { row := referStrictRow, standIns := [], harness := (true, "2bcd7a715fca6dd5181272695f0fcae1acf886a05b57d1fafdb5b42307683625"), looks := true }, kinds := [], alts := [], laidByText := true, laidKinds := [.data, .data, .pinned], laidTests := true, laidLooks := .later }
def ReferStrictCardSaid : Prop := Claim7.holds Tryz.pinned (.plain (OpenSpec.ofChange referStrictSpec)) referStrictCard

/-- THE TIED CARD OF 'postmarklaw17.ReferDown'. -/
def referDownCard : Claim7 := { stood := { row := referDownRow, standIns := [], harness := (true, "2bcd7a715fca6dd5181272695f0fcae1acf886a05b57d1fafdb5b42307683625"), looks := true }, kinds := [], alts := [], laidByText := true, laidKinds := [.data, .data, .pinned], laidTests := true, laidLooks := .later }
def ReferDownCardSaid : Prop := Claim7.holds Tryz.pinned (.plain (OpenSpec.ofChange referDownSpec)) referDownCard

/-- THE SECOND FORM's CARD OF 'postmarklaw17.ReferTells'. -/
def referTellsUptoCard : Claim7 := { stood := { row := referTellsUptoRow, standIns := [], harness := (true, "2bcd7a715fca6dd5181272695f0fcae1acf886a05b57d1fafdb5b42307683625"), looks := true }, kinds := [], alts := [], laidByText := true, laidKinds := [.data, .data, .pinned], laidTests := true, laidLooks := .later }
def ReferTellsUptoCardSaid : Prop := Claim7.holds Tryz.pinned (.plain (OpenSpec.upto referTellsSpec)) referTellsUptoCard

/-- THE SECOND FORM's CARD OF 'postmarklaw17.ReferMost'. -/
def referMostUptoCard : Claim7 := { stood := { row := referMostUptoRow, standIns := [], harness := (true, "2bcd7a715fca6dd5181272695f0fcae1acf886a05b57d1fafdb5b42307683625"), looks := true }, kinds := [], alts := [], laidByText := true, laidKinds := [.data, .data, .pinned], laidTests := true, laidLooks := .later }
def ReferMostUptoCardSaid : Prop := Claim7.holds Tryz.pinned (.plain (OpenSpec.upto referMostSpec)) referMostUptoCard

/-- THE SECOND FORM's CARD OF 'postmarklaw17.ReferBlind'. -/
def referBlindUptoCard : Claim7 := { stood := { row := referBlindUptoRow, standIns := [], harness := (true, "2bcd7a715fca6dd5181272695f0fcae1acf886a05b57d1fafdb5b42307683625"), looks := true }, kinds := [], alts := [], laidByText := true, laidKinds := [.data, .data, .pinned], laidTests := true, laidLooks := .later }
def ReferBlindUptoCardSaid : Prop := Claim7.holds Tryz.pinned (.plain (OpenSpec.upto referBlindSpec)) referBlindUptoCard

/-- THE SECOND FORM's CARD OF 'postmarklaw17.ReferStrict'. -/
def referStrictUptoCard : Claim7 := { stood := { row := referStrictUptoRow, standIns := [], harness := (true, "2bcd7a715fca6dd5181272695f0fcae1acf886a05b57d1fafdb5b42307683625"), looks := true }, kinds := [], alts := [], laidByText := true, laidKinds := [.data, .data, .pinned], laidTests := true, laidLooks := .later }
def ReferStrictUptoCardSaid : Prop := Claim7.holds Tryz.pinned (.plain (OpenSpec.upto referStrictSpec)) referStrictUptoCard

/-- THE SECOND FORM's CARD OF 'postmarklaw17.ReferDown'. -/
def referDownUptoCard : Claim7 := { stood := { row := referDownUptoRow, standIns := [], harness := (true, "2bcd7a715fca6dd5181272695f0fcae1acf886a05b57d1fafdb5b42307683625"), looks := true }, kinds := [], alts := [], laidByText := true, laidKinds := [.data, .data, .pinned], laidTests := true, laidLooks := .later }
def ReferDownUptoCardSaid : Prop := Claim7.holds Tryz.pinned (.plain (OpenSpec.upto referDownSpec)) referDownUptoCard
end Rows
end Go.Proofs.YtbmnhmbicefemaaGreatDoor
