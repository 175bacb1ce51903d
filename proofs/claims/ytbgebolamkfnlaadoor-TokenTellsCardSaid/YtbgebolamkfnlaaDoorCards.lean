/-
  DERIVED. GIVEN WITH THE SEED: THE CARDS: each row of YtbgebolamkfnlaaDoorRows.lean that lists a variable, with what it lists TIED to the program's text (the seventh form; the later family's looks); each row that meets fmt, with fmt's text TOLD by the authors' own Lean function (tested against real Go, not proved from fmt's source: count such statements apart). THE CARD IS WHAT COUNTS. Prove the row's statement (the work); the ties are given (YtbgebolamkfnlaaDoorTie.lean); close each card by the builder's one call (the guide's Derived/Test/ToyasCard.lean, 'card_holds'). Laid BY PROGRAM, IN A SANDBOX (cutbox-door.mjs). By AI agents, Wed Nov 11 2026. No macro, syntax, notation, axiom, sorry.
-/
import Derived.Test.YtbgebolamkfnlaaDoorRows
import GoSem.ClaimSeven
namespace Go.Proofs.YtbgebolamkfnlaaDoor
namespace Rows

/-- THE TIED CARD OF 'postmarklaw14.TokenTells'. -/
def tokenTellsCard : Claim7 := { stood := { row := tokenTellsRow, standIns := [], harness := (true, "ac38f8f9e1de1af77472271a660cd0412dce6d6ccec05056e93a634303183c32"), looks := false }, kinds := [], alts := [], laidByText := true, laidKinds := [.data, .data, .pinned], laidTests := true, laidLooks := .later }
def TokenTellsCardSaid : Prop := Claim7.holds Tryd.pinned (.plain (OpenSpec.ofChange tokenTellsSpec)) tokenTellsCard

/-- THE TIED CARD OF 'postmarklaw14.TokenNames'. -/
def tokenNamesCard : Claim7 := { stood := { row := tokenNamesRow, standIns := [], harness := (true, "ac38f8f9e1de1af77472271a660cd0412dce6d6ccec05056e93a634303183c32"), looks := false }, kinds := [], alts := [], laidByText := true, laidKinds := [.data, .data, .pinned], laidTests := true, laidLooks := .later }
def TokenNamesCardSaid : Prop := Claim7.holds Tryd.pinned (.plain (OpenSpec.ofChange tokenNamesSpec)) tokenNamesCard

/-- THE TIED CARD OF 'postmarklaw14.TokenLast'. -/
def tokenLastCard : Claim7 := { stood := { row := tokenLastRow, standIns := [], harness := (true, "ac38f8f9e1de1af77472271a660cd0412dce6d6ccec05056e93a634303183c32"), looks := false }, kinds := [], alts := [], laidByText := true, laidKinds := [.data, .data, .pinned], laidTests := true, laidLooks := .later }
def TokenLastCardSaid : Prop := Claim7.holds Tryd.pinned (.plain (OpenSpec.ofChange tokenLastSpec)) tokenLastCard

/-- THE TIED CARD OF 'postmarklaw14.TokenTold'. -/
def tokenToldCard : Claim7 := { stood := { row := tokenToldRow, standIns := [], harness := (true, "ac38f8f9e1de1af77472271a660cd0412dce6d6ccec05056e93a634303183c32"), looks := false }, kinds := [], alts := [], laidByText := true, laidKinds := [.data, .data, .pinned], laidTests := true, laidLooks := .later }
def TokenToldCardSaid : Prop := Claim7.holds Tryd.pinned (.plain (OpenSpec.ofChange tokenToldSpec)) tokenToldCard

/-- THE TIED CARD OF 'postmarklaw14.TokenSplit'. -/
def tokenSplitCard : Claim7 := { stood := { row := tokenSplitRow, standIns := [], harness := (true, "ac38f8f9e1de1af77472271a660cd0412dce6d6ccec05056e93a634303183c32"), looks := false }, kinds := [], alts := [], laidByText := true, laidKinds := [.data, .data, .pinned], laidTests := true, laidLooks := .later }
def TokenSplitCardSaid : Prop := Claim7.holds Tryd.pinned (.plain (OpenSpec.ofChange tokenSplitSpec)) tokenSplitCard

/-- THE TIED CARD OF 'postmarklaw14.TokenPolicy'. -/
def tokenPolicyCard : Claim7 := { stood := { row := tokenPolicyRow, standIns := [], harness := (true, "ac38f8f9e1de1af77472271a660cd0412dce6d6ccec05056e93a634303183c32"), looks := false }, kinds := [], alts := [], laidByText := true, laidKinds := [.data, .data, .pinned], laidTests := true, laidLooks := .later }
def TokenPolicyCardSaid : Prop := Claim7.holds Tryd.pinned (.plain (OpenSpec.ofChange tokenPolicySpec)) tokenPolicyCard

/-- THE SECOND FORM's CARD OF 'postmarklaw14.TokenTells'. -/
def tokenTellsUptoCard : Claim7 := { stood := { row := tokenTellsUptoRow, standIns := [], harness := (true, "ac38f8f9e1de1af77472271a660cd0412dce6d6ccec05056e93a634303183c32"), looks := false }, kinds := [], alts := [], laidByText := true, laidKinds := [.data, .data, .pinned], laidTests := true, laidLooks := .later }
def TokenTellsUptoCardSaid : Prop := Claim7.holds Tryd.pinned (.plain (OpenSpec.upto tokenTellsSpec)) tokenTellsUptoCard

/-- THE SECOND FORM's CARD OF 'postmarklaw14.TokenNames'. -/
def tokenNamesUptoCard : Claim7 := { stood := { row := tokenNamesUptoRow, standIns := [], harness := (true, "ac38f8f9e1de1af77472271a660cd0412dce6d6ccec05056e93a634303183c32"), looks := false }, kinds := [], alts := [], laidByText := true, laidKinds := [.data, .data, .pinned], laidTests := true, laidLooks := .later }
def TokenNamesUptoCardSaid : Prop := Claim7.holds Tryd.pinned (.plain (OpenSpec.upto tokenNamesSpec)) tokenNamesUptoCard

/-- THE SECOND FORM's CARD OF 'postmarklaw14.TokenLast'. -/
def tokenLastUptoCard : Claim7 := { stood := { row := tokenLastUptoRow, standIns := [], harness := (true, "ac38f8f9e1de1af77472271a660cd0412dce6d6ccec05056e93a634303183c32"), looks := false }, kinds := [], alts := [], laidByText := true, laidKinds := [.data, .data, .pinned], laidTests := true, laidLooks := .later }
def TokenLastUptoCardSaid : Prop := Claim7.holds Tryd.pinned (.plain (OpenSpec.upto tokenLastSpec)) tokenLastUptoCard

/-- THE SECOND FORM's CARD OF 'postmarklaw14.TokenTold'. -/
def tokenToldUptoCard : Claim7 := { stood := { row := tokenToldUptoRow, standIns := [], harness := (true, "ac38f8f9e1de1af77472271a660cd0412dce6d6ccec05056e93a634303183c32"), looks := false }, kinds := [], alts := [], laidByText := true, laidKinds := [.data, .data, .pinned], laidTests := true, laidLooks := .later }
def TokenToldUptoCardSaid : Prop := Claim7.holds Tryd.pinned (.plain (OpenSpec.upto tokenToldSpec)) tokenToldUptoCard

/-- THE SECOND FORM's CARD OF 'postmarklaw14.TokenSplit'. -/
def tokenSplitUptoCard : Claim7 := { stood := { row := tokenSplitUptoRow, standIns := [], harness := (true, "ac38f8f9e1de1af77472271a660cd0412dce6d6ccec05056e93a634303183c32"), looks := false }, kinds := [], alts := [], laidByText := true, laidKinds := [.data, .data, .pinned], laidTests := true, laidLooks := .later }
def TokenSplitUptoCardSaid : Prop := Claim7.holds Tryd.pinned (.plain (OpenSpec.upto tokenSplitSpec)) tokenSplitUptoCard

/-- THE SECOND FORM's CARD OF 'postmarklaw14.TokenPolicy'. -/
def tokenPolicyUptoCard : Claim7 := { stood := { row := tokenPolicyUptoRow, standIns := [], harness := (true, "ac38f8f9e1de1af77472271a660cd0412dce6d6ccec05056e93a634303183c32"), looks := false }, kinds := [], alts := [], laidByText := true, laidKinds := [.data, .data, .pinned], laidTests := true, laidLooks := .later }
def TokenPolicyUptoCardSaid : Prop := Claim7.holds Tryd.pinned (.plain (OpenSpec.upto tokenPolicySpec)) tokenPolicyUptoCard
end Rows
end Go.Proofs.YtbgebolamkfnlaaDoor
