/-
  DERIVED. GIVEN WITH THE SEED: THE CARDS: each row of YtlkikfdbjpjpaaaGreatDoorRows.lean that lists a variable, with what it lists TIED to the program's text (the seventh form; the later family's looks); each row that meets fmt, with fmt's text TOLD by the authors' own Lean function (tested against real Go, not proved from fmt's source: count such statements apart). THE CARD IS WHAT COUNTS. Prove the row's statement (the work); the ties are given (YtlkikfdbjpjpaaaGreatDoorTie.lean); close each card by the builder's one call (the guide's Derived/Test/ToyasCard.lean, 'card_holds'). Laid BY PROGRAM, IN A SANDBOX (cutbox-door.mjs). By AI agents, Wed Nov 11 2026. No macro, syntax, notation, axiom, sorry.
-/
import Derived.Test.YtlkikfdbjpjpaaaGreatDoorRows
import GoSem.ClaimSeven
namespace Go.Proofs.YtlkikfdbjpjpaaaGreatDoor
namespace Rows

/-- THE TIED CARD OF 'postmarklaw19.TaintTells'. -/
def taintTellsCard : Claim7 := { stood := { row := taintTellsRow, standIns := [], harness := (true, "a84586eaf54ccc1f6e324722697fc594e1e3dba4c68e177262008a8b3cbe52ee"), looks := true }, kinds := [], alts := [], laidByText := true, laidKinds := [.data, .data, .data, .data, .pinned], laidTests := true, laidLooks := .later }
def TaintTellsCardSaid : Prop := Claim7.holds Tryz.pinned (.plain (OpenSpec.ofChange taintTellsSpec)) taintTellsCard

/-- THE TIED CARD OF 'postmarklaw19.TaintStays'. -/
def taintStaysCard : Claim7 := { stood := { row := taintStaysRow, standIns := [], harness := (true, "a84586eaf54ccc1f6e324722697fc594e1e3dba4c68e177262008a8b3cbe52ee"), looks := true }, kinds := [], alts := [], laidByText := true, laidKinds := [.data, .data, .data, .data, .pinned], laidTests := true, laidLooks := .later }
def TaintStaysCardSaid : Prop := Claim7.holds Tryz.pinned (.plain (OpenSpec.ofChange taintStaysSpec)) taintStaysCard

/-- THE TIED CARD OF 'postmarklaw19.TaintNull'. -/
def taintNullCard : Claim7 := { stood := { row := taintNullRow, standIns := [], harness := (true, "a84586eaf54ccc1f6e324722697fc594e1e3dba4c68e177262008a8b3cbe52ee"), looks := true }, kinds := [], alts := [], laidByText := true, laidKinds := [.data, .data, .data, .data, .pinned], laidTests := true, laidLooks := .later }
def TaintNullCardSaid : Prop := Claim7.holds Tryz.pinned (.plain (OpenSpec.ofChange taintNullSpec)) taintNullCard

/-- THE TIED CARD OF 'postmarklaw19.TaintCors'. -/
def taintCorsCard : Claim7 := { stood := { row := taintCorsRow, standIns := [], harness := (true, "a84586eaf54ccc1f6e324722697fc594e1e3dba4c68e177262008a8b3cbe52ee"), looks := true }, kinds := [], alts := [], laidByText := true, laidKinds := [.data, .data, .data, .data, .pinned], laidTests := true, laidLooks := .later }
def TaintCorsCardSaid : Prop := Claim7.holds Tryz.pinned (.plain (OpenSpec.ofChange taintCorsSpec)) taintCorsCard

/-- THE TIED CARD OF 'postmarklaw19.TaintPolicy'. -/
def taintPolicyCard : Claim7 := { stood := { row := taintPolicyRow, standIns := [], harness := (true, "a84586eaf54ccc1f6e324722697fc594e1e3dba4c68e177262008a8b3cbe52ee"), looks := true }, kinds := [], alts := [], laidByText := true, laidKinds := [.data, .data, .data, .data, .pinned], laidTests := true, laidLooks := .later }
def TaintPolicyCardSaid : Prop := Claim7.holds Tryz.pinned (.plain (OpenSpec.ofChange taintPolicySpec)) taintPolicyCard

/-- THE TIED CARD OF 'postmarklaw19.TaintCreds'. -/
def taintCredsCard : Claim7 := { stood := { row := taintCredsRow, standIns := [], harness := (true, "a84586eaf54ccc1f6e324722697fc594e1e3dba4c68e177262008a8b3cbe52ee"), looks := true }, kinds := [], alts := [], laidByText := true, laidKinds := [.data, .data, .data, .data, .pinned], laidTests := true, laidLooks := .later }
def TaintCredsCardSaid : Prop := Claim7.holds Tryz.pinned (.plain (OpenSpec.ofChange taintCredsSpec)) taintCredsCard

/-- THE SECOND FORM's CARD OF 'postmarklaw19.TaintTells'. -/
def taintTellsUptoCard : Claim7 := { stood := { row := taintTellsUptoRow, standIns := [], harness := (true, "a84586eaf54ccc1f6e324722697fc594e1e3dba4c68e177262008a8b3cbe52ee"), looks := true }, kinds := [], alts := [], laidByText := true, laidKinds := [.data, .data, .data, .data, .pinned], laidTests := true, laidLooks := .later }
def TaintTellsUptoCardSaid : Prop := Claim7.holds Tryz.pinned (.plain (OpenSpec.upto taintTellsSpec)) taintTellsUptoCard

/-- THE SECOND FORM's CARD OF 'postmarklaw19.TaintStays'. -/
def taintStaysUptoCard : Claim7 := { stood := { row := taintStaysUptoRow, standIns := [], harness := (true, "a84586eaf54ccc1f6e324722697fc594e1e3dba4c68e177262008a8b3cbe52ee"), looks := true }, kinds := [], alts := [], laidByText := true, laidKinds := [.data, .data, .data, .data, .pinned], laidTests := true, laidLooks := .later }
def TaintStaysUptoCardSaid : Prop := Claim7.holds Tryz.pinned (.plain (OpenSpec.upto taintStaysSpec)) taintStaysUptoCard

/-- THE SECOND FORM's CARD OF 'postmarklaw19.TaintNull'. -/
def taintNullUptoCard : Claim7 := { stood := { row := taintNullUptoRow, standIns := [], harness := (true, "a84586eaf54ccc1f6e324722697fc594e1e3dba4c68e177262008a8b3cbe52ee"), looks := true }, kinds := [], alts := [], laidByText := true, laidKinds := [.data, .data, .data, .data, .pinned], laidTests := true, laidLooks := .later }
def TaintNullUptoCardSaid : Prop := Claim7.holds Tryz.pinned (.plain (OpenSpec.upto taintNullSpec)) taintNullUptoCard

/-- THE SECOND FORM's CARD OF 'postmarklaw19.TaintCors'. -/
def taintCorsUptoCard : Claim7 := { stood := { row := taintCorsUptoRow, standIns := [], harness := (true, "a84586eaf54ccc1f6e324722697fc594e1e3dba4c68e177262008a8b3cbe52ee"), looks := true }, kinds := [], alts := [], laidByText := true, laidKinds := [.data, .data, .data, .data, .pinned], laidTests := true, laidLooks := .later }
def TaintCorsUptoCardSaid : Prop := Claim7.holds Tryz.pinned (.plain (OpenSpec.upto taintCorsSpec)) taintCorsUptoCard

/-- THE SECOND FORM's CARD OF 'postmarklaw19.TaintPolicy'. -/
def taintPolicyUptoCard : Claim7 := { stood := { row := taintPolicyUptoRow, standIns := [], harness := (true, "a84586eaf54ccc1f6e324722697fc594e1e3dba4c68e177262008a8b3cbe52ee"), looks := true }, kinds := [], alts := [], laidByText := true, laidKinds := [.data, .data, .data, .data, .pinned], laidTests := true, laidLooks := .later }
def TaintPolicyUptoCardSaid : Prop := Claim7.holds Tryz.pinned (.plain (OpenSpec.upto taintPolicySpec)) taintPolicyUptoCard

/-- THE SECOND FORM's CARD OF 'postmarklaw19.TaintCreds'. -/
def taintCredsUptoCard : Claim7 := { stood := { row := taintCredsUptoRow, standIns := [], harness := (true, "a84586eaf54ccc1f6e324722697fc594e1e3dba4c68e177262008a8b3cbe52ee"), looks := true }, kinds := [], alts := [], laidByText := true, laidKinds := [.data, .data, .data, .data, .pinned], laidTests := true, laidLooks := .later }
def TaintCredsUptoCardSaid : Prop := Claim7.holds Tryz.pinned (.plain (OpenSpec.upto taintCredsSpec)) taintCredsUptoCard
end Rows
end Go.Proofs.YtlkikfdbjpjpaaaGreatDoor
