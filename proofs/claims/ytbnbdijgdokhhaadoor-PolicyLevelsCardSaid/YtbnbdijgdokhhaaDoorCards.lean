/-
  DERIVED. GIVEN WITH THE SEED: THE CARDS: each row of YtbnbdijgdokhhaaDoorRows.lean that lists a variable, with what it lists TIED to the program's text (the seventh form; the later family's looks); each row that meets fmt, with fmt's text TOLD by the authors' own Lean function (tested against real Go, not proved from fmt's source: count such statements apart). THE CARD IS WHAT COUNTS. Prove the row's statement (the work); the ties are given (YtbnbdijgdokhhaaDoorTie.lean); close each card by the builder's one call (the guide's Derived/Test/ToyasCard.lean, 'card_holds'). Laid BY PROGRAM, IN A SANDBOX (cutbox-door.mjs). By AI agents, Wed Nov 11 2026. No macro, syntax, notation, axiom, sorry.
-/
import Derived.Test.YtbnbdijgdokhhaaDoorRows
import GoSem.ClaimSeven
namespace Go.Proofs.YtbnbdijgdokhhaaDoor
namespace Rows

/-- THE TIED CARD OF 'postmarklaw15.PolicyTells'. -/
def policyTellsCard : Claim7 := { stood := { row := policyTellsRow, standIns := [], harness := (true, "f53c6eb203da03de20ef769cd7a0fa138ac3d3416951458cfe3d59b6e490fd2b"), looks := false }, kinds := [], alts := [], laidByText := true, laidKinds := [.data], laidTests := true, laidLooks := .later }
def PolicyTellsCardSaid : Prop := Claim7.holds Tryd.pinned (.plain (OpenSpec.ofChange policyTellsSpec)) policyTellsCard

/-- THE TIED CARD OF 'postmarklaw15.PolicyLess'. -/
def policyLessCard : Claim7 := { stood := { row := policyLessRow, standIns := [], harness := (true, "f53c6eb203da03de20ef769cd7a0fa138ac3d3416951458cfe3d59b6e490fd2b"), looks := false }, kinds := [], alts := [], laidByText := true, laidKinds := [.data], laidTests := true, laidLooks := .later }
def PolicyLessCardSaid : Prop := Claim7.holds Tryd.pinned (.plain (OpenSpec.ofChange policyLessSpec)) policyLessCard

/-- THE TIED CARD OF 'postmarklaw15.PolicyOrder'. -/
def policyOrderCard : Claim7 := { stood := { row := policyOrderRow, standIns := [], harness := (true, "f53c6eb203da03de20ef769cd7a0fa138ac3d3416951458cfe3d59b6e490fd2b"), looks := false }, kinds := [], alts := [], laidByText := true, laidKinds := [.data], laidTests := true, laidLooks := .later }
def PolicyOrderCardSaid : Prop := Claim7.holds Tryd.pinned (.plain (OpenSpec.ofChange policyOrderSpec)) policyOrderCard

/-- THE TIED CARD OF 'postmarklaw15.PolicyApart'. -/
def policyApartCard : Claim7 := { stood := { row := policyApartRow, standIns := [], harness := (true, "f53c6eb203da03de20ef769cd7a0fa138ac3d3416951458cfe3d59b6e490fd2b"), looks := false }, kinds := [], alts := [], laidByText := true, laidKinds := [.data], laidTests := true, laidLooks := .later }
def PolicyApartCardSaid : Prop := Claim7.holds Tryd.pinned (.plain (OpenSpec.ofChange policyApartSpec)) policyApartCard

/-- THE TIED CARD OF 'postmarklaw15.PolicyLevels'. -/
def policyLevelsCard : Claim7 := { stood := { row := policyLevelsRow, standIns := [], harness := (true, "f53c6eb203da03de20ef769cd7a0fa138ac3d3416951458cfe3d59b6e490fd2b"), looks := false }, kinds := [], alts := [], laidByText := true, laidKinds := [.data], laidTests := true, laidLooks := .later }
def PolicyLevelsCardSaid : Prop := Claim7.holds Tryd.pinned (.plain (OpenSpec.ofChange policyLevelsSpec)) policyLevelsCard

/-- THE TIED CARD OF 'postmarklaw15.PolicyOther'. -/
def policyOtherCard : Claim7 := { stood := { row := policyOtherRow, standIns := [], harness := (true, "f53c6eb203da03de20ef769cd7a0fa138ac3d3416951458cfe3d59b6e490fd2b"), looks := false }, kinds := [], alts := [], laidByText := true, laidKinds := [.data], laidTests := true, laidLooks := .later }
def PolicyOtherCardSaid : Prop := Claim7.holds Tryd.pinned (.plain (OpenSpec.ofChange policyOtherSpec)) policyOtherCard

/-- THE SECOND FORM's CARD OF 'postmarklaw15.PolicyTells'. -/
def policyTellsUptoCard : Claim7 := { stood := { row := policyTellsUptoRow, standIns := [], harness := (true, "f53c6eb203da03de20ef769cd7a0fa138ac3d3416951458cfe3d59b6e490fd2b"), looks := false }, kinds := [], alts := [], laidByText := true, laidKinds := [.data], laidTests := true, laidLooks := .later }
def PolicyTellsUptoCardSaid : Prop := Claim7.holds Tryd.pinned (.plain (OpenSpec.upto policyTellsSpec)) policyTellsUptoCard

/-- THE SECOND FORM's CARD OF 'postmarklaw15.PolicyLess'. -/
def policyLessUptoCard : Claim7 := { stood := { row := policyLessUptoRow, standIns := [], harness := (true, "f53c6eb203da03de20ef769cd7a0fa138ac3d3416951458cfe3d59b6e490fd2b"), looks := false }, kinds := [], alts := [], laidByText := true, laidKinds := [.data], laidTests := true, laidLooks := .later }
def PolicyLessUptoCardSaid : Prop := Claim7.holds Tryd.pinned (.plain (OpenSpec.upto policyLessSpec)) policyLessUptoCard

/-- THE SECOND FORM's CARD OF 'postmarklaw15.PolicyOrder'. -/
def policyOrderUptoCard : Claim7 := { stood := { row := policyOrderUptoRow, standIns := [], harness := (true, "f53c6eb203da03de20ef769cd7a0fa138ac3d3416951458cfe3d59b6e490fd2b"), looks := false }, kinds := [], alts := [], laidByText := true, laidKinds := [.data], laidTests := true, laidLooks := .later }
def PolicyOrderUptoCardSaid : Prop := Claim7.holds Tryd.pinned (.plain (OpenSpec.upto policyOrderSpec)) policyOrderUptoCard

/-- THE SECOND FORM's CARD OF 'postmarklaw15.PolicyApart'. -/
def policyApartUptoCard : Claim7 := { stood := { row := policyApartUptoRow, standIns := [], harness := (true, "f53c6eb203da03de20ef769cd7a0fa138ac3d3416951458cfe3d59b6e490fd2b"), looks := false }, kinds := [], alts := [], laidByText := true, laidKinds := [.data], laidTests := true, laidLooks := .later }
def PolicyApartUptoCardSaid : Prop := Claim7.holds Tryd.pinned (.plain (OpenSpec.upto policyApartSpec)) policyApartUptoCard

/-- THE SECOND FORM's CARD OF 'postmarklaw15.PolicyLevels'. -/
def policyLevelsUptoCard : Claim7 := { stood := { row := policyLevelsUptoRow, standIns := [], harness := (true, "f53c6eb203da03de20ef769cd7a0fa138ac3d3416951458cfe3d59b6e490fd2b"), looks := false }, kinds := [], alts := [], laidByText := true, laidKinds := [.data], laidTests := true, laidLooks := .later }
def PolicyLevelsUptoCardSaid : Prop := Claim7.holds Tryd.pinned (.plain (OpenSpec.upto policyLevelsSpec)) policyLevelsUptoCard

/-- THE SECOND FORM's CARD OF 'postmarklaw15.PolicyOther'. -/
def policyOtherUptoCard : Claim7 := { stood := { row := policyOtherUptoRow, standIns := [], harness := (true, "f53c6eb203da03de20ef769cd7a0fa138ac3d3416951458cfe3d59b6e490fd2b"), looks := false }, kinds := [], alts := [], laidByText := true, laidKinds := [.data], laidTests := true, laidLooks := .later }
def PolicyOtherUptoCardSaid : Prop := Claim7.holds Tryd.pinned (.plain (OpenSpec.upto policyOtherSpec)) policyOtherUptoCard
end Rows
end Go.Proofs.YtbnbdijgdokhhaaDoor
