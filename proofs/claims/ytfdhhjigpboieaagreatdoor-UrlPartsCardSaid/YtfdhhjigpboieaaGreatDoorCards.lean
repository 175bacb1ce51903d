/-
  DERIVED. GIVEN WITH THE SEED: THE CARDS: each row of YtfdhhjigpboieaaGreatDoorRows.lean that lists a variable, with what it lists TIED to the program's text (the seventh form; the later family's looks); each row that meets fmt, with fmt's text TOLD by the authors' own Lean function (tested against real Go, not proved from fmt's source: count such statements apart). THE CARD IS WHAT COUNTS. Prove the row's statement (the work); the ties are given (YtfdhhjigpboieaaGreatDoorTie.lean); close each card by the builder's one call (the guide's Derived/Test/ToyasCard.lean, 'card_holds'). Laid BY PROGRAM, IN A SANDBOX (cutbox-door.mjs). By AI agents, Wed Nov 11 2026. No macro, syntax, notation, axiom, sorry.
-/
import Derived.Test.YtfdhhjigpboieaaGreatDoorRows
import GoSem.ClaimSeven
namespace Go.Proofs.YtfdhhjigpboieaaGreatDoor
namespace Rows

/-- THE TIED CARD OF 'postmarklaw09.UrlTells'. -/
def urlTellsCard : Claim7 := { stood := { row := urlTellsRow, standIns := [], harness := (true, "203a1f16439db6cbbe391aa18978090443af8f367b4bc9eb2e347ee9a89e9694"), looks := true }, kinds := [], alts := [], laidByText := true, laidKinds := [.data, .data, .data, .data, .pinned], laidTests := true, laidLooks := .later }
def UrlTellsCardSaid : Prop := Claim7.holds Tryz.pinned (.plain (OpenSpec.ofChange urlTellsSpec)) urlTellsCard

/-- THE TIED CARD OF 'postmarklaw09.UrlMay'. -/
def urlMayCard : Claim7 := { stood := { row := urlMayRow, standIns := [], harness := (true, "203a1f16439db6cbbe391aa18978090443af8f367b4bc9eb2e347ee9a89e9694"), looks := true }, kinds := [], alts := [], laidByText := true, laidKinds := [.data, .data, .data, .data, .pinned], laidTests := true, laidLooks := .later }
def UrlMayCardSaid : Prop := Claim7.holds Tryz.pinned (.plain (OpenSpec.ofChange urlMaySpec)) urlMayCard

/-- THE TIED CARD OF 'postmarklaw09.UrlTail'. -/
def urlTailCard : Claim7 := { stood := { row := urlTailRow, standIns := [], harness := (true, "203a1f16439db6cbbe391aa18978090443af8f367b4bc9eb2e347ee9a89e9694"), looks := true }, kinds := [], alts := [], laidByText := true, laidKinds := [.data, .data, .data, .data, .pinned], laidTests := true, laidLooks := .later }
def UrlTailCardSaid : Prop := Claim7.holds Tryz.pinned (.plain (OpenSpec.ofChange urlTailSpec)) urlTailCard

/-- THE TIED CARD OF 'postmarklaw09.UrlScheme'. -/
def urlSchemeCard : Claim7 := { stood := { row := urlSchemeRow, standIns := [], harness := (true, "203a1f16439db6cbbe391aa18978090443af8f367b4bc9eb2e347ee9a89e9694"), looks := true }, kinds := [], alts := [], laidByText := true, laidKinds := [.data, .data, .data, .data, .pinned], laidTests := true, laidLooks := .later }
def UrlSchemeCardSaid : Prop := Claim7.holds Tryz.pinned (.plain (OpenSpec.ofChange urlSchemeSpec)) urlSchemeCard

/-- THE TIED CARD OF 'postmarklaw09.UrlParts'. -/
def urlPartsCard : Claim7 := { stood := { row := urlPartsRow, standIns := [], harness := (true, "203a1f16439db6cbbe391aa18978090443af8f367b4bc9eb2e347ee9a89e9694"), looks := true }, kinds := [], alts := [], laidByText := true, laidKinds := [.data, .data, .data, .data, .pinned], laidTests := true, laidLooks := .later }
def UrlPartsCardSaid : Prop := Claim7.holds Tryz.pinned (.plain (OpenSpec.ofChange urlPartsSpec)) urlPartsCard

/-- THE TIED CARD OF 'postmarklaw09.UrlPort'. -/
def urlPortCard : Claim7 := { stood := { row := urlPortRow, standIns := [], harness := (true, "203a1f16439db6cbbe391aa18978090443af8f367b4bc9eb2e347ee9a89e9694"), looks := true }, kinds := [], alts := [], laidByText := true, laidKinds := [.data, .data, .data, .data, .pinned], laidTests := true, laidLooks := .later }
def UrlPortCardSaid : Prop := Claim7.holds Tryz.pinned (.plain (OpenSpec.ofChange urlPortSpec)) urlPortCard

/-- THE TIED CARD OF 'postmarklaw09.UrlUser'. -/
def urlUserCard : Claim7 := { stood := { row := urlUserRow, standIns := [], harness := (true, "203a1f16439db6cbbe391aa18978090443af8f367b4bc9eb2e347ee9a89e9694"), looks := true }, kinds := [], alts := [], laidByText := true, laidKinds := [.data, .data, .data, .data, .pinned], laidTests := true, laidLooks := .later }
def UrlUserCardSaid : Prop := Claim7.holds Tryz.pinned (.plain (OpenSpec.ofChange urlUserSpec)) urlUserCard

/-- THE TIED CARD OF 'postmarklaw09.UrlSame'. -/
def urlSameCard : Claim7 := { stood := { row := urlSameRow, standIns := [], harness := (true, "203a1f16439db6cbbe391aa18978090443af8f367b4bc9eb2e347ee9a89e9694"), looks := true }, kinds := [], alts := [], laidByText := true, laidKinds := [.data, .data, .data, .data, .pinned], laidTests := true, laidLooks := .later }
def UrlSameCardSaid : Prop := Claim7.holds Tryz.pinned (.plain (OpenSpec.ofChange urlSameSpec)) urlSameCard

/-- THE SECOND FORM's CARD OF 'postmarklaw09.UrlTells'. -/
def urlTellsUptoCard : Claim7 := { stood := { row := urlTellsUptoRow, standIns := [], harness := (true, "203a1f16439db6cbbe391aa18978090443af8f367b4bc9eb2e347ee9a89e9694"), looks := true }, kinds := [], alts := [], laidByText := true, laidKinds := [.data, .data, .data, .data, .pinned], laidTests := true, laidLooks := .later }
def UrlTellsUptoCardSaid : Prop := Claim7.holds Tryz.pinned (.plain (OpenSpec.upto urlTellsSpec)) urlTellsUptoCard

/-- THE SECOND FORM's CARD OF 'postmarklaw09.UrlMay'. -/
def urlMayUptoCard : Claim7 := { stood := { row := urlMayUptoRow, standIns := [], harness := (true, "203a1f16439db6cbbe391aa18978090443af8f367b4bc9eb2e347ee9a89e9694"), looks := true }, kinds := [], alts := [], laidByText := true, laidKinds := [.data, .data, .data, .data, .pinned], laidTests := true, laidLooks := .later }
def UrlMayUptoCardSaid : Prop := Claim7.holds Tryz.pinned (.plain (OpenSpec.upto urlMaySpec)) urlMayUptoCard

/-- THE SECOND FORM's CARD OF 'postmarklaw09.UrlTail'. -/
def urlTailUptoCard : Claim7 := { stood := { row := urlTailUptoRow, standIns := [], harness := (true, "203a1f16439db6cbbe391aa18978090443af8f367b4bc9eb2e347ee9a89e9694"), looks := true }, kinds := [], alts := [], laidByText := true, laidKinds := [.data, .data, .data, .data, .pinned], laidTests := true, laidLooks := .later }
def UrlTailUptoCardSaid : Prop := Claim7.holds Tryz.pinned (.plain (OpenSpec.upto urlTailSpec)) urlTailUptoCard

/-- THE SECOND FORM's CARD OF 'postmarklaw09.UrlScheme'. -/
def urlSchemeUptoCard : Claim7 := { stood := { row := urlSchemeUptoRow, standIns := [], harness := (true, "203a1f16439db6cbbe391aa18978090443af8f367b4bc9eb2e347ee9a89e9694"), looks := true }, kinds := [], alts := [], laidByText := true, laidKinds := [.data, .data, .data, .data, .pinned], laidTests := true, laidLooks := .later }
def UrlSchemeUptoCardSaid : Prop := Claim7.holds Tryz.pinned (.plain (OpenSpec.upto urlSchemeSpec)) urlSchemeUptoCard

/-- THE SECOND FORM's CARD OF 'postmarklaw09.UrlParts'. -/
def urlPartsUptoCard : Claim7 := { stood := { row := urlPartsUptoRow, standIns := [], harness := (true, "203a1f16439db6cbbe391aa18978090443af8f367b4bc9eb2e347ee9a89e9694"), looks := true }, kinds := [], alts := [], laidByText := true, laidKinds := [.data, .data, .data, .data, .pinned], laidTests := true, laidLooks := .later }
def UrlPartsUptoCardSaid : Prop := Claim7.holds Tryz.pinned (.plain (OpenSpec.upto urlPartsSpec)) urlPartsUptoCard

/-- THE SECOND FORM's CARD OF 'postmarklaw09.UrlPort'. -/
def urlPortUptoCard : Claim7 := { stood := { row := urlPortUptoRow, standIns := [], harness := (true, "203a1f16439db6cbbe391aa18978090443af8f367b4bc9eb2e347ee9a89e9694"), looks := true }, kinds := [], alts := [], laidByText := true, laidKinds := [.data, .data, .data, .data, .pinned], laidTests := true, laidLooks := .later }
def UrlPortUptoCardSaid : Prop := Claim7.holds Tryz.pinned (.plain (OpenSpec.upto urlPortSpec)) urlPortUptoCard

/-- THE SECOND FORM's CARD OF 'postmarklaw09.UrlUser'. -/
def urlUserUptoCard : Claim7 := { stood := { row := urlUserUptoRow, standIns := [], harness := (true, "203a1f16439db6cbbe391aa18978090443af8f367b4bc9eb2e347ee9a89e9694"), looks := true }, kinds := [], alts := [], laidByText := true, laidKinds := [.data, .data, .data, .data, .pinned], laidTests := true, laidLooks := .later }
def UrlUserUptoCardSaid : Prop := Claim7.holds Tryz.pinned (.plain (OpenSpec.upto urlUserSpec)) urlUserUptoCard

/-- THE SECOND FORM's CARD OF 'postmarklaw09.UrlSame'. -/
def urlSameUptoCard : Claim7 := { stood := { row := urlSameUptoRow, standIns := [], harness := (true, "203a1f16439db6cbbe391aa18978090443af8f367b4bc9eb2e347ee9a89e9694"), looks := true }, kinds := [], alts := [], laidByText := true, laidKinds := [.data, .data, .data, .data, .pinned], laidTests := true, laidLooks := .later }
def UrlSameUptoCardSaid : Prop := Claim7.holds Tryz.pinned (.plain (OpenSpec.upto urlSameSpec)) urlSameUptoCard
end Rows
end Go.Proofs.YtfdhhjigpboieaaGreatDoor
