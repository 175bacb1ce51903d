/-
  DERIVED. GIVEN WITH THE SEED: THE CARDS: each row of YtkhgdcpkhbpemaaGreatDoorRows.lean that lists a variable, with what it lists TIED to the program's text (the seventh form; the later family's looks); each row that meets fmt, with fmt's text TOLD by the authors' own Lean function (tested against real Go, not proved from fmt's source: count such statements apart). THE CARD IS WHAT COUNTS. Prove the row's statement (the work); the ties are given (YtkhgdcpkhbpemaaGreatDoorTie.lean); close each card by the builder's one call (the guide's Derived/Test/ToyasCard.lean, 'card_holds'). Laid BY PROGRAM, IN A SANDBOX (cutbox-door.mjs). By AI agents, Wed Nov 11 2026. No macro, syntax, notation, axiom, sorry.
-/
import Derived.Test.YtkhgdcpkhbpemaaGreatDoorRows
import GoSem.ClaimSeven
namespace Go.Proofs.YtkhgdcpkhbpemaaGreatDoor
namespace Rows

/-- THE TIED CARD OF 'postmarklaw12.OriginTells'. -/
def originTellsCard : Claim7 := { stood := { row := originTellsRow, standIns := [], harness := (true, "6c04c056808e390150fc5e649ede5fb55040df25a27b848855aae1420bbd00b3"), looks := true }, kinds := [], alts := [], laidByText := true, laidKinds := [.data, .data, .data, .data, .pinned], laidTests := true, laidLooks := .later }
def OriginTellsCardSaid : Prop := Claim7.holds Tryz.pinned (.plain (OpenSpec.ofChange originTellsSpec)) originTellsCard

/-- THE TIED CARD OF 'postmarklaw12.OriginEach'. -/
def originEachCard : Claim7 := { stood := { row := originEachRow, standIns := [], harness := (true, "6c04c056808e390150fc5e649ede5fb55040df25a27b848855aae1420bbd00b3"), looks := true }, kinds := [], alts := [], laidByText := true, laidKinds := [.data, .data, .data, .data, .pinned], laidTests := true, laidLooks := .later }
def OriginEachCardSaid : Prop := Claim7.holds Tryz.pinned (.plain (OpenSpec.ofChange originEachSpec)) originEachCard

/-- THE TIED CARD OF 'postmarklaw12.OriginShow'. -/
def originShowCard : Claim7 := { stood := { row := originShowRow, standIns := [], harness := (true, "6c04c056808e390150fc5e649ede5fb55040df25a27b848855aae1420bbd00b3"), looks := true }, kinds := [], alts := [], laidByText := true, laidKinds := [.data, .data, .data, .data, .pinned], laidTests := true, laidLooks := .later }
def OriginShowCardSaid : Prop := Claim7.holds Tryz.pinned (.plain (OpenSpec.ofChange originShowSpec)) originShowCard

/-- THE TIED CARD OF 'postmarklaw12.OriginTrust'. -/
def originTrustCard : Claim7 := { stood := { row := originTrustRow, standIns := [], harness := (true, "6c04c056808e390150fc5e649ede5fb55040df25a27b848855aae1420bbd00b3"), looks := true }, kinds := [], alts := [], laidByText := true, laidKinds := [.data, .data, .data, .data, .pinned], laidTests := true, laidLooks := .later }
def OriginTrustCardSaid : Prop := Claim7.holds Tryz.pinned (.plain (OpenSpec.ofChange originTrustSpec)) originTrustCard

/-- THE TIED CARD OF 'postmarklaw12.OriginPort'. -/
def originPortCard : Claim7 := { stood := { row := originPortRow, standIns := [], harness := (true, "6c04c056808e390150fc5e649ede5fb55040df25a27b848855aae1420bbd00b3"), looks := true }, kinds := [], alts := [], laidByText := true, laidKinds := [.data, .data, .data, .data, .pinned], laidTests := true, laidLooks := .later }
def OriginPortCardSaid : Prop := Claim7.holds Tryz.pinned (.plain (OpenSpec.ofChange originPortSpec)) originPortCard

/-- THE TIED CARD OF 'postmarklaw12.OriginNull'. -/
def originNullCard : Claim7 := { stood := { row := originNullRow, standIns := [], harness := (true, "6c04c056808e390150fc5e649ede5fb55040df25a27b848855aae1420bbd00b3"), looks := true }, kinds := [], alts := [], laidByText := true, laidKinds := [.data, .data, .data, .data, .pinned], laidTests := true, laidLooks := .later }
def OriginNullCardSaid : Prop := Claim7.holds Tryz.pinned (.plain (OpenSpec.ofChange originNullSpec)) originNullCard

/-- THE SECOND FORM's CARD OF 'postmarklaw12.OriginTells'. -/
def originTellsUptoCard : Claim7 := { stood := { row := originTellsUptoRow, standIns := [], harness := (true, "6c04c056808e390150fc5e649ede5fb55040df25a27b848855aae1420bbd00b3"), looks := true }, kinds := [], alts := [], laidByText := true, laidKinds := [.data, .data, .data, .data, .pinned], laidTests := true, laidLooks := .later }
def OriginTellsUptoCardSaid : Prop := Claim7.holds Tryz.pinned (.plain (OpenSpec.upto originTellsSpec)) originTellsUptoCard

/-- THE SECOND FORM's CARD OF 'postmarklaw12.OriginEach'. -/
def originEachUptoCard : Claim7 := { stood := { row := originEachUptoRow, standIns := [], harness := (true, "6c04c056808e390150fc5e649ede5fb55040df25a27b848855aae1420bbd00b3"), looks := true }, kinds := [], alts := [], laidByText := true, laidKinds := [.data, .data, .data, .data, .pinned], laidTests := true, laidLooks := .later }
def OriginEachUptoCardSaid : Prop := Claim7.holds Tryz.pinned (.plain (OpenSpec.upto originEachSpec)) originEachUptoCard

/-- THE SECOND FORM's CARD OF 'postmarklaw12.OriginShow'. -/
def originShowUptoCard : Claim7 := { stood := { row := originShowUptoRow, standIns := [], harness := (true, "6c04c056808e390150fc5e649ede5fb55040df25a27b848855aae1420bbd00b3"), looks := true }, kinds := [], alts := [], laidByText := true, laidKinds := [.data, .data, .data, .data, .pinned], laidTests := true, laidLooks := .later }
def OriginShowUptoCardSaid : Prop := Claim7.holds Tryz.pinned (.plain (OpenSpec.upto originShowSpec)) originShowUptoCard

/-- THE SECOND FORM's CARD OF 'postmarklaw12.OriginTrust'. -/
def originTrustUptoCard : Claim7 := { stood := { row := originTrustUptoRow, standIns := [], harness := (true, "6c04c056808e390150fc5e649ede5fb55040df25a27b848855aae1420bbd00b3"), looks := true }, kinds := [], alts := [], laidByText := true, laidKinds := [.data, .data, .data, .data, .pinned], laidTests := true, laidLooks := .later }
def OriginTrustUptoCardSaid : Prop := Claim7.holds Tryz.pinned (.plain (OpenSpec.upto originTrustSpec)) originTrustUptoCard

/-- THE SECOND FORM's CARD OF 'postmarklaw12.OriginPort'. -/
def originPortUptoCard : Claim7 := { stood := { row := originPortUptoRow, standIns := [], harness := (true, "6c04c056808e390150fc5e649ede5fb55040df25a27b848855aae1420bbd00b3"), looks := true }, kinds := [], alts := [], laidByText := true, laidKinds := [.data, .data, .data, .data, .pinned], laidTests := true, laidLooks := .later }
def OriginPortUptoCardSaid : Prop := Claim7.holds Tryz.pinned (.plain (OpenSpec.upto originPortSpec)) originPortUptoCard

/-- THE SECOND FORM's CARD OF 'postmarklaw12.OriginNull'. -/
def originNullUptoCard : Claim7 := { stood := { row := originNullUptoRow, standIns := [], harness := (true, "6c04c056808e390150fc5e649ede5fb55040df25a27b848855aae1420bbd00b3"), looks := true }, kinds := [], alts := [], laidByText := true, laidKinds := [.data, .data, .data, .data, .pinned], laidTests := true, laidLooks := .later }
def OriginNullUptoCardSaid : Prop := Claim7.holds Tryz.pinned (.plain (OpenSpec.upto originNullSpec)) originNullUptoCard
end Rows
end Go.Proofs.YtkhgdcpkhbpemaaGreatDoor
