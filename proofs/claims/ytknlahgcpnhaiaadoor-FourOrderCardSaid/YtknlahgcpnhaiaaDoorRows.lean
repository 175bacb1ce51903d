/-
  NARROWER THAN 'FOR EVERY INPUT', by the rows' own cells (each row's printed sentence says how): FourTells: laid · FourBack: laid · FourParts: laid · FourLooks: laid · FourOrder: laid.
  DERIVED. THE GIVEN ROWS OF THIS SEAT. 5 by the template 'for every input the law returns true; each argument reads behind the call as it read before'; 0 by the template 'total and deterministic' (their statements: YtknlahgcpnhaiaaDoorTotals.lean).
  GIVEN WITH THE SEED: the statements are not yours to turn. If you find one false, say at which input.
  Laid BY PROGRAM, IN A SANDBOX (cutbox-rows.mjs): the forced cells as the released guide's own fill.sh prints them over the translation 7be3322793614308… (all of the seat's roots in one cut). By AI agents, Wed Nov 11 2026. No macro, syntax, notation, axiom, sorry.
-/
import Derived.Test.YtknlahgcpnhaiaaDoorChecked
import GoSem.PinnedTables
import GoSem.Claim
import GoSem.ClaimJoined
import GoSem.ClaimMapViews
import Derived.JoinedTies
import Derived.KernelRfl
namespace Go.Proofs.YtknlahgcpnhaiaaDoor
/- THE CELL 'sum', in the pinned program and in every row, IS THE sha256 OF THE DUMP (.gsa) THAT YtknlahgcpnhaiaaDoorProg.lean LOADS. Nothing in Lean hashes anything: it is a label: what it is worth is what the hold of that sum in a sandbox is worth. -/
noncomputable def Tryd.pinned : Pinned := { name := "ytknlahgcpnhaiaadoor", sum := "7be3322793614308fe058e9ec0c7bd0cfe9a8670c63d2a2881a8122d97b944e2", checked := Tryd.checked }
namespace Rows
def none {H : Type} : Left H := { results := [], args := [] }

/- WHAT THE LISTED PACKAGE-LEVEL VARIABLES READ AS WHEN THE CALL BEGINS. Each datum BY PROGRAM (the guide's laid-datum.mjs) off the statement by which the dump's own 'gosem.cut.vars' lays the variable. In a bare row this is a premise. The card (YtknlahgcpnhaiaaDoorCards.lean) ties it to the program's text. -/
def laid_unicode_utf8_acceptRanges {H : Type} : DataW H := .agg [.agg [.lit (.int .u8 128), .lit (.int .u8 191)], .agg [.lit (.int .u8 160), .lit (.int .u8 191)], .agg [.lit (.int .u8 128), .lit (.int .u8 159)], .agg [.lit (.int .u8 144), .lit (.int .u8 191)], .agg [.lit (.int .u8 128), .lit (.int .u8 143)], .agg [.lit (.int .u8 0), .lit (.int .u8 0)], .agg [.lit (.int .u8 0), .lit (.int .u8 0)], .agg [.lit (.int .u8 0), .lit (.int .u8 0)], .agg [.lit (.int .u8 0), .lit (.int .u8 0)], .agg [.lit (.int .u8 0), .lit (.int .u8 0)], .agg [.lit (.int .u8 0), .lit (.int .u8 0)], .agg [.lit (.int .u8 0), .lit (.int .u8 0)], .agg [.lit (.int .u8 0), .lit (.int .u8 0)], .agg [.lit (.int .u8 0), .lit (.int .u8 0)], .agg [.lit (.int .u8 0), .lit (.int .u8 0)], .agg [.lit (.int .u8 0), .lit (.int .u8 0)]]
/-- One of Go's own tables, pinned by name: the form's constant. -/
def laid_unicode_utf8_first : DataW Unit := Go.Pinned.utf8First

/-- 'postmarklaw05.FourTells': WHATEVER THE INPUT: true; the input reads as it did. -/
def fourTellsSpec : ChangeSpec := { name := "fourTells", fn := fun _ => fun
  | [d1, d2] => { results := [.lit (.bool true)], args := [d1, d2] }
  | _ => none }
def fourTellsRow : OpenClaim := { program := "ytknlahgcpnhaiaadoor", sum := "7be3322793614308fe058e9ec0c7bd0cfe9a8670c63d2a2881a8122d97b944e2", func := "postmark/postmarklaw05.FourTells", spec := "fourTells", inPlace := ["internal/bytealg.CountString", "internal/bytealg.IndexByteString", "internal/bytealg.IndexString", "internal/abi.NoEscape", "internal/bytealg.MakeNoZero"], unfollowed := true, recurses := true, named := ["unicode/utf8.first", "unicode/utf8.acceptRanges", "internal/bytealg.MaxLen"], apart := false, laid := [("unicode/utf8.acceptRanges", laid_unicode_utf8_acceptRanges), ("unicode/utf8.first", laid_unicode_utf8_first)] }
def FourTellsSaid : Prop := fourTellsRow.holds Tryd.pinned (OpenSpec.ofChange fourTellsSpec)

/-- ITS FALSE NEIGHBOUR: 'it returns false'. Refute it at one input. -/
def fourTellsWrong : ChangeSpec := { name := "fourTells", fn := fun _ => fun
  | [d1, d2] => { results := [.lit (.bool false)], args := [d1, d2] }
  | _ => none }
def FourTellsWrongFalsely : Prop := fourTellsRow.holds Tryd.pinned (OpenSpec.ofChange fourTellsWrong)

/-- 'postmarklaw05.FourBack': WHATEVER THE INPUT: true; the input reads as it did. -/
def fourBackSpec : ChangeSpec := { name := "fourBack", fn := fun _ => fun
  | [d1, d2, d3] => { results := [.lit (.bool true)], args := [d1, d2, d3] }
  | _ => none }
def fourBackRow : OpenClaim := { program := "ytknlahgcpnhaiaadoor", sum := "7be3322793614308fe058e9ec0c7bd0cfe9a8670c63d2a2881a8122d97b944e2", func := "postmark/postmarklaw05.FourBack", spec := "fourBack", inPlace := ["internal/bytealg.CountString", "internal/bytealg.IndexByteString", "internal/bytealg.IndexString", "internal/abi.NoEscape", "internal/bytealg.MakeNoZero"], unfollowed := true, recurses := true, named := ["unicode/utf8.first", "unicode/utf8.acceptRanges", "internal/bytealg.MaxLen"], apart := false, laid := [("unicode/utf8.acceptRanges", laid_unicode_utf8_acceptRanges), ("unicode/utf8.first", laid_unicode_utf8_first)] }
def FourBackSaid : Prop := fourBackRow.holds Tryd.pinned (OpenSpec.ofChange fourBackSpec)

/-- ITS FALSE NEIGHBOUR: 'it returns false'. Refute it at one input. -/
def fourBackWrong : ChangeSpec := { name := "fourBack", fn := fun _ => fun
  | [d1, d2, d3] => { results := [.lit (.bool false)], args := [d1, d2, d3] }
  | _ => none }
def FourBackWrongFalsely : Prop := fourBackRow.holds Tryd.pinned (OpenSpec.ofChange fourBackWrong)

/-- 'postmarklaw05.FourParts': WHATEVER THE INPUT: true; the input reads as it did. -/
def fourPartsSpec : ChangeSpec := { name := "fourParts", fn := fun _ => fun
  | [d1, d2, d3, d4] => { results := [.lit (.bool true)], args := [d1, d2, d3, d4] }
  | _ => none }
def fourPartsRow : OpenClaim := { program := "ytknlahgcpnhaiaadoor", sum := "7be3322793614308fe058e9ec0c7bd0cfe9a8670c63d2a2881a8122d97b944e2", func := "postmark/postmarklaw05.FourParts", spec := "fourParts", inPlace := ["internal/bytealg.CountString", "internal/bytealg.IndexByteString", "internal/bytealg.IndexString", "internal/abi.NoEscape", "internal/bytealg.MakeNoZero"], unfollowed := true, recurses := true, named := ["unicode/utf8.first", "unicode/utf8.acceptRanges", "internal/bytealg.MaxLen"], apart := false, laid := [("unicode/utf8.acceptRanges", laid_unicode_utf8_acceptRanges), ("unicode/utf8.first", laid_unicode_utf8_first)] }
def FourPartsSaid : Prop := fourPartsRow.holds Tryd.pinned (OpenSpec.ofChange fourPartsSpec)

/-- ITS FALSE NEIGHBOUR: 'it returns false'. Refute it at one input. -/
def fourPartsWrong : ChangeSpec := { name := "fourParts", fn := fun _ => fun
  | [d1, d2, d3, d4] => { results := [.lit (.bool false)], args := [d1, d2, d3, d4] }
  | _ => none }
def FourPartsWrongFalsely : Prop := fourPartsRow.holds Tryd.pinned (OpenSpec.ofChange fourPartsWrong)

/-- 'postmarklaw05.FourLooks': WHATEVER THE INPUT: true; the input reads as it did. -/
def fourLooksSpec : ChangeSpec := { name := "fourLooks", fn := fun _ => fun
  | [d1, d2] => { results := [.lit (.bool true)], args := [d1, d2] }
  | _ => none }
def fourLooksRow : OpenClaim := { program := "ytknlahgcpnhaiaadoor", sum := "7be3322793614308fe058e9ec0c7bd0cfe9a8670c63d2a2881a8122d97b944e2", func := "postmark/postmarklaw05.FourLooks", spec := "fourLooks", inPlace := ["internal/bytealg.CountString", "internal/bytealg.IndexByteString", "internal/bytealg.IndexString", "internal/abi.NoEscape", "internal/bytealg.MakeNoZero"], unfollowed := true, recurses := true, named := ["unicode/utf8.first", "unicode/utf8.acceptRanges", "internal/bytealg.MaxLen"], apart := false, laid := [("unicode/utf8.acceptRanges", laid_unicode_utf8_acceptRanges), ("unicode/utf8.first", laid_unicode_utf8_first)] }
def FourLooksSaid : Prop := fourLooksRow.holds Tryd.pinned (OpenSpec.ofChange fourLooksSpec)

/-- ITS FALSE NEIGHBOUR: 'it returns false'. Refute it at one input. -/
def fourLooksWrong : ChangeSpec := { name := "fourLooks", fn := fun _ => fun
  | [d1, d2] => { results := [.lit (.bool false)], args := [d1, d2] }
  | _ => none }
def FourLooksWrongFalsely : Prop := fourLooksRow.holds Tryd.pinned (OpenSpec.ofChange fourLooksWrong)

/-- 'postmarklaw05.FourOrder': WHATEVER THE INPUT: true; the input reads as it did. -/
def fourOrderSpec : ChangeSpec := { name := "fourOrder", fn := fun _ => fun
  | [d] => { results := [.lit (.bool true)], args := [d] }
  | _ => none }
def fourOrderRow : OpenClaim := { program := "ytknlahgcpnhaiaadoor", sum := "7be3322793614308fe058e9ec0c7bd0cfe9a8670c63d2a2881a8122d97b944e2", func := "postmark/postmarklaw05.FourOrder", spec := "fourOrder", inPlace := ["internal/bytealg.CountString", "internal/bytealg.IndexByteString", "internal/bytealg.IndexString", "internal/abi.NoEscape", "internal/bytealg.MakeNoZero"], unfollowed := true, recurses := true, named := ["unicode/utf8.first", "unicode/utf8.acceptRanges", "internal/bytealg.MaxLen"], apart := false, laid := [("unicode/utf8.acceptRanges", laid_unicode_utf8_acceptRanges), ("unicode/utf8.first", laid_unicode_utf8_first)] }
def FourOrderSaid : Prop := fourOrderRow.holds Tryd.pinned (OpenSpec.ofChange fourOrderSpec)

/-- ITS FALSE NEIGHBOUR: 'it returns false'. Refute it at one input. -/
def fourOrderWrong : ChangeSpec := { name := "fourOrder", fn := fun _ => fun
  | [d] => { results := [.lit (.bool false)], args := [d] }
  | _ => none }
def FourOrderWrongFalsely : Prop := fourOrderRow.holds Tryd.pinned (OpenSpec.ofChange fourOrderWrong)

/- THE SECOND FORM. 'bulk': how many values and letters a reading holds, each counted each time it is reached (what is shared counts as often as it is met; a slice's spare places count too). A statement '..UptoSaid' is the law's where the arguments, and the package variables that the reading takes, are together of bulk at most 1048576: NARROWER than '..Said'. Prove '..Said' where nothing that the law and all that it calls make is longer than what came in: it says more and counts as full. Else prove '..UptoSaid'. A law counts once. -/
mutual
def uptoBulk {H : Type} : DataW H → Nat
  | .lit (.string bytes) => bytes.length + 1
  | .lit _ => 1
  | .nil => 1
  | .ptr d => uptoBulk d + 1
  | .slice elems spare => uptoBulkAll elems + uptoBulkAll spare + 1
  | .agg parts => uptoBulkAll parts + 1
  | .iface _ d => uptoBulk d + 1
  | .map entries => uptoBulkEntries entries + 1
  | .held _ => 1
def uptoBulkAll {H : Type} : List (DataW H) → Nat
  | [] => 0
  | d :: r => uptoBulk d + uptoBulkAll r
def uptoBulkEntries {H : Type} : List (Lit × DataW H) → Nat
  | [] => 0
  | x :: r => uptoBulkEntry x + uptoBulkEntries r
def uptoBulkEntry {H : Type} : Lit × DataW H → Nat
  | (.string bytes, d) => bytes.length + uptoBulk d + 1
  | (_, d) => uptoBulk d + 1
 end
def uptoSmall : (H : Type) → List (DataW H) → Bool := fun _ ds => decide (uptoBulkAll ds ≤ 1048576)
def OpenSpec.upto (s : _root_.Go.ChangeSpec) : _root_.Go.OpenSpec := { _root_.Go.OpenSpec.ofChange s with cond := some uptoSmall }

/-- 'postmarklaw05.FourTells', WHERE WHAT IT READS IS OF BULK AT MOST 1048576: true; the input reads as it did. -/
def fourTellsUptoRow : OpenClaim := { program := "ytknlahgcpnhaiaadoor", sum := "7be3322793614308fe058e9ec0c7bd0cfe9a8670c63d2a2881a8122d97b944e2", func := "postmark/postmarklaw05.FourTells", spec := "fourTells", inPlace := ["internal/bytealg.CountString", "internal/bytealg.IndexByteString", "internal/bytealg.IndexString", "internal/abi.NoEscape", "internal/bytealg.MakeNoZero"], unfollowed := true, recurses := true, named := ["unicode/utf8.first", "unicode/utf8.acceptRanges", "internal/bytealg.MaxLen"], apart := false, laid := [("unicode/utf8.acceptRanges", laid_unicode_utf8_acceptRanges), ("unicode/utf8.first", laid_unicode_utf8_first)], narrowed := true }
def FourTellsUptoSaid : Prop := fourTellsUptoRow.holds Tryd.pinned (OpenSpec.upto fourTellsSpec)

/-- 'postmarklaw05.FourBack', WHERE WHAT IT READS IS OF BULK AT MOST 1048576: true; the input reads as it did. -/
def fourBackUptoRow : OpenClaim := { program := "ytknlahgcpnhaiaadoor", sum := "7be3322793614308fe058e9ec0c7bd0cfe9a8670c63d2a2881a8122d97b944e2", func := "postmark/postmarklaw05.FourBack", spec := "fourBack", inPlace := ["internal/bytealg.CountString", "internal/bytealg.IndexByteString", "internal/bytealg.IndexString", "internal/abi.NoEscape", "internal/bytealg.MakeNoZero"], unfollowed := true, recurses := true, named := ["unicode/utf8.first", "unicode/utf8.acceptRanges", "internal/bytealg.MaxLen"], apart := false, laid := [("unicode/utf8.acceptRanges", laid_unicode_utf8_acceptRanges), ("unicode/utf8.first", laid_unicode_utf8_first)], narrowed := true }
def FourBackUptoSaid : Prop := fourBackUptoRow.holds Tryd.pinned (OpenSpec.upto fourBackSpec)

/-- 'postmarklaw05.FourParts', WHERE WHAT IT READS IS OF BULK AT MOST 1048576: true; the input reads as it did. -/
def fourPartsUptoRow : OpenClaim := { program := "ytknlahgcpnhaiaadoor", sum := "7be3322793614308fe058e9ec0c7bd0cfe9a8670c63d2a2881a8122d97b944e2", func := "postmark/postmarklaw05.FourParts", spec := "fourParts", inPlace := ["internal/bytealg.CountString", "internal/bytealg.IndexByteString", "internal/bytealg.IndexString", "internal/abi.NoEscape", "internal/bytealg.MakeNoZero"], unfollowed := true, recurses := true, named := ["unicode/utf8.first", "unicode/utf8.acceptRanges", "internal/bytealg.MaxLen"], apart := false, laid := [("unicode/utf8.acceptRanges", laid_unicode_utf8_acceptRanges), ("unicode/utf8.first", laid_unicode_utf8_first)], narrowed := true }
def FourPartsUptoSaid : Prop := fourPartsUptoRow.holds Tryd.pinned (OpenSpec.upto fourPartsSpec)

/-- 'postmarklaw05.FourLooks', WHERE WHAT IT READS IS OF BULK AT MOST 1048576: true; the input reads as it did. -/
def fourLooksUptoRow : OpenClaim := { program := "ytknlahgcpnhaiaadoor", sum := "7be3322793614308fe058e9ec0c7bd0cfe9a8670c63d2a2881a8122d97b944e2", func := "postmark/postmarklaw05.FourLooks", spec := "fourLooks", inPlace := ["internal/bytealg.CountString", "internal/bytealg.IndexByteString", "internal/bytealg.IndexString", "internal/abi.NoEscape", "internal/bytealg.MakeNoZero"], unfollowed := true, recurses := true, named := ["unicode/utf8.first", "unicode/utf8.acceptRanges", "internal/bytealg.MaxLen"], apart := false, laid := [("unicode/utf8.acceptRanges", laid_unicode_utf8_acceptRanges), ("unicode/utf8.first", laid_unicode_utf8_first)], narrowed := true }
def FourLooksUptoSaid : Prop := fourLooksUptoRow.holds Tryd.pinned (OpenSpec.upto fourLooksSpec)

/-- 'postmarklaw05.FourOrder', WHERE WHAT IT READS IS OF BULK AT MOST 1048576: true; the input reads as it did. -/
def fourOrderUptoRow : OpenClaim := { program := "ytknlahgcpnhaiaadoor", sum := "7be3322793614308fe058e9ec0c7bd0cfe9a8670c63d2a2881a8122d97b944e2", func := "postmark/postmarklaw05.FourOrder", spec := "fourOrder", inPlace := ["internal/bytealg.CountString", "internal/bytealg.IndexByteString", "internal/bytealg.IndexString", "internal/abi.NoEscape", "internal/bytealg.MakeNoZero"], unfollowed := true, recurses := true, named := ["unicode/utf8.first", "unicode/utf8.acceptRanges", "internal/bytealg.MaxLen"], apart := false, laid := [("unicode/utf8.acceptRanges", laid_unicode_utf8_acceptRanges), ("unicode/utf8.first", laid_unicode_utf8_first)], narrowed := true }
def FourOrderUptoSaid : Prop := fourOrderUptoRow.holds Tryd.pinned (OpenSpec.upto fourOrderSpec)

end Rows
end Go.Proofs.YtknlahgcpnhaiaaDoor
