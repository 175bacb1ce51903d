/-
  NARROWER THAN 'FOR EVERY INPUT', by the rows' own cells (each row's printed sentence says how): TokenTells: laid · TokenNames: laid · TokenLast: laid · TokenTold: laid · TokenSplit: laid · TokenPolicy: laid.
  DERIVED. THE GIVEN ROWS OF THIS SEAT. 6 by the template 'for every input the law returns true; each argument reads behind the call as it read before'; 0 by the template 'total and deterministic' (their statements: YtbgebolamkfnlaaDoorTotals.lean).
  GIVEN WITH THE SEED: the statements are not yours to turn. If you find one false, say at which input.
  Laid BY PROGRAM, IN A SANDBOX (cutbox-rows.mjs): the forced cells as the released guide's own fill.sh prints them over the translation 5784339669aece6f… (all of the seat's roots in one cut). By AI agents, Wed Nov 11 2026. No macro, syntax, notation, axiom, sorry.
-/
import Derived.Test.YtbgebolamkfnlaaDoorChecked
import GoSem.PinnedTables
import GoSem.Claim
import GoSem.ClaimJoined
import GoSem.ClaimMapViews
import Derived.JoinedTies
import Derived.KernelRfl
namespace Go.Proofs.YtbgebolamkfnlaaDoor
/- THE CELL 'sum', in the pinned program and in every row, IS THE sha256 OF THE DUMP (.gsa) THAT YtbgebolamkfnlaaDoorProg.lean LOADS. Nothing in Lean hashes anything: it is a label: what it is worth is what the hold of that sum in a sandbox is worth. -/
noncomputable def Tryd.pinned : Pinned := { name := "ytbgebolamkfnlaadoor", sum := "5784339669aece6f3dd149140b1968887035cbe4c3061ae33bc31e6988fd19f1", checked := Tryd.checked }
namespace Rows
def none {H : Type} : Left H := { results := [], args := [] }

/- WHAT THE LISTED PACKAGE-LEVEL VARIABLES READ AS WHEN THE CALL BEGINS. Each datum BY PROGRAM (the guide's laid-datum.mjs) off the statement by which the dump's own 'gosem.cut.vars' lays the variable. In a bare row this is a premise. The card (YtbgebolamkfnlaaDoorCards.lean) ties it to the program's text. -/
def laid_unicode_utf8_acceptRanges {H : Type} : DataW H := .agg [.agg [.lit (.int .u8 128), .lit (.int .u8 191)], .agg [.lit (.int .u8 160), .lit (.int .u8 191)], .agg [.lit (.int .u8 128), .lit (.int .u8 159)], .agg [.lit (.int .u8 144), .lit (.int .u8 191)], .agg [.lit (.int .u8 128), .lit (.int .u8 143)], .agg [.lit (.int .u8 0), .lit (.int .u8 0)], .agg [.lit (.int .u8 0), .lit (.int .u8 0)], .agg [.lit (.int .u8 0), .lit (.int .u8 0)], .agg [.lit (.int .u8 0), .lit (.int .u8 0)], .agg [.lit (.int .u8 0), .lit (.int .u8 0)], .agg [.lit (.int .u8 0), .lit (.int .u8 0)], .agg [.lit (.int .u8 0), .lit (.int .u8 0)], .agg [.lit (.int .u8 0), .lit (.int .u8 0)], .agg [.lit (.int .u8 0), .lit (.int .u8 0)], .agg [.lit (.int .u8 0), .lit (.int .u8 0)], .agg [.lit (.int .u8 0), .lit (.int .u8 0)]]
def laid_postmark_token_names {H : Type} : DataW H := .agg [.lit (.string []), .lit (.string [110, 111, 45, 114, 101, 102, 101, 114, 114, 101, 114]), .lit (.string [110, 111, 45, 114, 101, 102, 101, 114, 114, 101, 114, 45, 119, 104, 101, 110, 45, 100, 111, 119, 110, 103, 114, 97, 100, 101]), .lit (.string [115, 97, 109, 101, 45, 111, 114, 105, 103, 105, 110]), .lit (.string [111, 114, 105, 103, 105, 110]), .lit (.string [115, 116, 114, 105, 99, 116, 45, 111, 114, 105, 103, 105, 110]), .lit (.string [111, 114, 105, 103, 105, 110, 45, 119, 104, 101, 110, 45, 99, 114, 111, 115, 115, 45, 111, 114, 105, 103, 105, 110]), .lit (.string [115, 116, 114, 105, 99, 116, 45, 111, 114, 105, 103, 105, 110, 45, 119, 104, 101, 110, 45, 99, 114, 111, 115, 115, 45, 111, 114, 105, 103, 105, 110]), .lit (.string [117, 110, 115, 97, 102, 101, 45, 117, 114, 108])]
/-- One of Go's own tables, pinned by name: the form's constant. -/
def laid_unicode_utf8_first : DataW Unit := Go.Pinned.utf8First

/-- 'postmarklaw14.TokenTells': WHATEVER THE INPUT: true; the input reads as it did. -/
def tokenTellsSpec : ChangeSpec := { name := "tokenTells", fn := fun _ => fun
  | [d1, d2, d3] => { results := [.lit (.bool true)], args := [d1, d2, d3] }
  | _ => none }
def tokenTellsRow : OpenClaim := { program := "ytbgebolamkfnlaadoor", sum := "5784339669aece6f3dd149140b1968887035cbe4c3061ae33bc31e6988fd19f1", func := "postmark/postmarklaw14.TokenTells", spec := "tokenTells", inPlace := ["internal/bytealg.CountString", "internal/bytealg.IndexByteString", "internal/bytealg.IndexString", "internal/abi.NoEscape", "internal/bytealg.MakeNoZero"], unfollowed := true, recurses := true, named := ["unicode/utf8.first", "unicode/utf8.acceptRanges", "internal/bytealg.MaxLen", "postmark/token.names"], apart := false, laid := [("unicode/utf8.acceptRanges", laid_unicode_utf8_acceptRanges), ("postmark/token.names", laid_postmark_token_names), ("unicode/utf8.first", laid_unicode_utf8_first)] }
def TokenTellsSaid : Prop := tokenTellsRow.holds Tryd.pinned (OpenSpec.ofChange tokenTellsSpec)

/-- ITS FALSE NEIGHBOUR: 'it returns false'. Refute it at one input. -/
def tokenTellsWrong : ChangeSpec := { name := "tokenTells", fn := fun _ => fun
  | [d1, d2, d3] => { results := [.lit (.bool false)], args := [d1, d2, d3] }
  | _ => none }
def TokenTellsWrongFalsely : Prop := tokenTellsRow.holds Tryd.pinned (OpenSpec.ofChange tokenTellsWrong)

/-- 'postmarklaw14.TokenNames': WHATEVER THE INPUT: true; the input reads as it did. -/
def tokenNamesSpec : ChangeSpec := { name := "tokenNames", fn := fun _ => fun
  | [d1, d2] => { results := [.lit (.bool true)], args := [d1, d2] }
  | _ => none }
def tokenNamesRow : OpenClaim := { program := "ytbgebolamkfnlaadoor", sum := "5784339669aece6f3dd149140b1968887035cbe4c3061ae33bc31e6988fd19f1", func := "postmark/postmarklaw14.TokenNames", spec := "tokenNames", inPlace := ["internal/bytealg.CountString", "internal/bytealg.IndexByteString", "internal/bytealg.IndexString", "internal/abi.NoEscape", "internal/bytealg.MakeNoZero"], unfollowed := true, recurses := true, named := ["unicode/utf8.first", "unicode/utf8.acceptRanges", "internal/bytealg.MaxLen", "postmark/token.names"], apart := false, laid := [("unicode/utf8.acceptRanges", laid_unicode_utf8_acceptRanges), ("postmark/token.names", laid_postmark_token_names), ("unicode/utf8.first", laid_unicode_utf8_first)] }
def TokenNamesSaid : Prop := tokenNamesRow.holds Tryd.pinned (OpenSpec.ofChange tokenNamesSpec)

/-- ITS FALSE NEIGHBOUR: 'it returns false'. Refute it at one input. -/
def tokenNamesWrong : ChangeSpec := { name := "tokenNames", fn := fun _ => fun
  | [d1, d2] => { results := [.lit (.bool false)], args := [d1, d2] }
  | _ => none }
def TokenNamesWrongFalsely : Prop := tokenNamesRow.holds Tryd.pinned (OpenSpec.ofChange tokenNamesWrong)

/-- 'postmarklaw14.TokenLast': WHATEVER THE INPUT: true; the input reads as it did. -/
def tokenLastSpec : ChangeSpec := { name := "tokenLast", fn := fun _ => fun
  | [d1, d2, d3] => { results := [.lit (.bool true)], args := [d1, d2, d3] }
  | _ => none }
def tokenLastRow : OpenClaim := { program := "ytbgebolamkfnlaadoor", sum := "5784339669aece6f3dd149140b1968887035cbe4c3061ae33bc31e6988fd19f1", func := "postmark/postmarklaw14.TokenLast", spec := "tokenLast", inPlace := ["internal/bytealg.CountString", "internal/bytealg.IndexByteString", "internal/bytealg.IndexString", "internal/abi.NoEscape", "internal/bytealg.MakeNoZero"], unfollowed := true, recurses := true, named := ["unicode/utf8.first", "unicode/utf8.acceptRanges", "internal/bytealg.MaxLen", "postmark/token.names"], apart := false, laid := [("unicode/utf8.acceptRanges", laid_unicode_utf8_acceptRanges), ("postmark/token.names", laid_postmark_token_names), ("unicode/utf8.first", laid_unicode_utf8_first)] }
def TokenLastSaid : Prop := tokenLastRow.holds Tryd.pinned (OpenSpec.ofChange tokenLastSpec)

/-- ITS FALSE NEIGHBOUR: 'it returns false'. Refute it at one input. -/
def tokenLastWrong : ChangeSpec := { name := "tokenLast", fn := fun _ => fun
  | [d1, d2, d3] => { results := [.lit (.bool false)], args := [d1, d2, d3] }
  | _ => none }
def TokenLastWrongFalsely : Prop := tokenLastRow.holds Tryd.pinned (OpenSpec.ofChange tokenLastWrong)

/-- 'postmarklaw14.TokenTold': WHATEVER THE INPUT: true; the input reads as it did. -/
def tokenToldSpec : ChangeSpec := { name := "tokenTold", fn := fun _ => fun
  | [d1, d2, d3] => { results := [.lit (.bool true)], args := [d1, d2, d3] }
  | _ => none }
def tokenToldRow : OpenClaim := { program := "ytbgebolamkfnlaadoor", sum := "5784339669aece6f3dd149140b1968887035cbe4c3061ae33bc31e6988fd19f1", func := "postmark/postmarklaw14.TokenTold", spec := "tokenTold", inPlace := ["internal/bytealg.CountString", "internal/bytealg.IndexByteString", "internal/bytealg.IndexString", "internal/abi.NoEscape", "internal/bytealg.MakeNoZero"], unfollowed := true, recurses := true, named := ["unicode/utf8.first", "unicode/utf8.acceptRanges", "internal/bytealg.MaxLen", "postmark/token.names"], apart := false, laid := [("unicode/utf8.acceptRanges", laid_unicode_utf8_acceptRanges), ("postmark/token.names", laid_postmark_token_names), ("unicode/utf8.first", laid_unicode_utf8_first)] }
def TokenToldSaid : Prop := tokenToldRow.holds Tryd.pinned (OpenSpec.ofChange tokenToldSpec)

/-- ITS FALSE NEIGHBOUR: 'it returns false'. Refute it at one input. -/
def tokenToldWrong : ChangeSpec := { name := "tokenTold", fn := fun _ => fun
  | [d1, d2, d3] => { results := [.lit (.bool false)], args := [d1, d2, d3] }
  | _ => none }
def TokenToldWrongFalsely : Prop := tokenToldRow.holds Tryd.pinned (OpenSpec.ofChange tokenToldWrong)

/-- 'postmarklaw14.TokenSplit': WHATEVER THE INPUT: true; the input reads as it did. -/
def tokenSplitSpec : ChangeSpec := { name := "tokenSplit", fn := fun _ => fun
  | [d1, d2, d3] => { results := [.lit (.bool true)], args := [d1, d2, d3] }
  | _ => none }
def tokenSplitRow : OpenClaim := { program := "ytbgebolamkfnlaadoor", sum := "5784339669aece6f3dd149140b1968887035cbe4c3061ae33bc31e6988fd19f1", func := "postmark/postmarklaw14.TokenSplit", spec := "tokenSplit", inPlace := ["internal/bytealg.CountString", "internal/bytealg.IndexByteString", "internal/bytealg.IndexString", "internal/abi.NoEscape", "internal/bytealg.MakeNoZero"], unfollowed := true, recurses := true, named := ["unicode/utf8.first", "unicode/utf8.acceptRanges", "internal/bytealg.MaxLen", "postmark/token.names"], apart := false, laid := [("unicode/utf8.acceptRanges", laid_unicode_utf8_acceptRanges), ("postmark/token.names", laid_postmark_token_names), ("unicode/utf8.first", laid_unicode_utf8_first)] }
def TokenSplitSaid : Prop := tokenSplitRow.holds Tryd.pinned (OpenSpec.ofChange tokenSplitSpec)

/-- ITS FALSE NEIGHBOUR: 'it returns false'. Refute it at one input. -/
def tokenSplitWrong : ChangeSpec := { name := "tokenSplit", fn := fun _ => fun
  | [d1, d2, d3] => { results := [.lit (.bool false)], args := [d1, d2, d3] }
  | _ => none }
def TokenSplitWrongFalsely : Prop := tokenSplitRow.holds Tryd.pinned (OpenSpec.ofChange tokenSplitWrong)

/-- 'postmarklaw14.TokenPolicy': WHATEVER THE INPUT: true; the input reads as it did. -/
def tokenPolicySpec : ChangeSpec := { name := "tokenPolicy", fn := fun _ => fun
  | [d1, d2] => { results := [.lit (.bool true)], args := [d1, d2] }
  | _ => none }
def tokenPolicyRow : OpenClaim := { program := "ytbgebolamkfnlaadoor", sum := "5784339669aece6f3dd149140b1968887035cbe4c3061ae33bc31e6988fd19f1", func := "postmark/postmarklaw14.TokenPolicy", spec := "tokenPolicy", inPlace := ["internal/bytealg.CountString", "internal/bytealg.IndexByteString", "internal/bytealg.IndexString", "internal/abi.NoEscape", "internal/bytealg.MakeNoZero"], unfollowed := true, recurses := true, named := ["unicode/utf8.first", "unicode/utf8.acceptRanges", "internal/bytealg.MaxLen", "postmark/token.names"], apart := false, laid := [("unicode/utf8.acceptRanges", laid_unicode_utf8_acceptRanges), ("postmark/token.names", laid_postmark_token_names), ("unicode/utf8.first", laid_unicode_utf8_first)] }
def TokenPolicySaid : Prop := tokenPolicyRow.holds Tryd.pinned (OpenSpec.ofChange tokenPolicySpec)

/-- ITS FALSE NEIGHBOUR: 'it returns false'. Refute it at one input. -/
def tokenPolicyWrong : ChangeSpec := { name := "tokenPolicy", fn := fun _ => fun
  | [d1, d2] => { results := [.lit (.bool false)], args := [d1, d2] }
  | _ => none }
def TokenPolicyWrongFalsely : Prop := tokenPolicyRow.holds Tryd.pinned (OpenSpec.ofChange tokenPolicyWrong)

/- THE SECOND FORM. 'bulk': how many values and letters a reading holds, each counted each time it is reached (what is shared counts as often as it is met; a slice's spare places count too). A statement '..UptoSaid' is the law's where the arguments, and the package variables that the reading takes, are together of bulk at most 1048576: NARROWER than '..Said'. Prove '..Said' where nothing that the law and all that it calls make is longer than what came in: it says more and counts as full. Else prove '..UptoSaid'. A law counts once. -/
mutual
def uptoBulk {H : Type} : DataW H → Nat
  | .lit (.string bytes) => bytes.length + 1
  | .lit _ => 1
  | .nil => 1
  | .ptr d => uptoBulk d + 1
  | .slice elems spare => uptoBulkAll elems + uptoBulkAll spare + 1
  | .agg parts => uptoBulkAll parts + 1
  | .iface _ d => uptoBulk d + 1
  | .map entries => uptoBulkEntries entries + 1
  | .held _ => 1
def uptoBulkAll {H : Type} : List (DataW H) → Nat
  | [] => 0
  | d :: r => uptoBulk d + uptoBulkAll r
def uptoBulkEntries {H : Type} : List (Lit × DataW H) → Nat
  | [] => 0
  | x :: r => uptoBulkEntry x + uptoBulkEntries r
def uptoBulkEntry {H : Type} : Lit × DataW H → Nat
  | (.string bytes, d) => bytes.length + uptoBulk d + 1
  | (_, d) => uptoBulk d + 1
 end
def uptoSmall : (H : Type) → List (DataW H) → Bool := fun _ ds => decide (uptoBulkAll ds ≤ 1048576)
def OpenSpec.upto (s : _root_.Go.ChangeSpec) : _root_.Go.OpenSpec := { _root_.Go.OpenSpec.ofChange s with cond := some uptoSmall }

/-- 'postmarklaw14.TokenTells', WHERE WHAT IT READS IS OF BULK AT MOST 1048576: true; the input reads as it did. -/
def tokenTellsUptoRow : OpenClaim := { program := "ytbgebolamkfnlaadoor", sum := "5784339669aece6f3dd149140b1968887035cbe4c3061ae33bc31e6988fd19f1", func := "postmark/postmarklaw14.TokenTells", spec := "tokenTells", inPlace := ["internal/bytealg.CountString", "internal/bytealg.IndexByteString", "internal/bytealg.IndexString", "internal/abi.NoEscape", "internal/bytealg.MakeNoZero"], unfollowed := true, recurses := true, named := ["unicode/utf8.first", "unicode/utf8.acceptRanges", "internal/bytealg.MaxLen", "postmark/token.names"], apart := false, laid := [("unicode/utf8.acceptRanges", laid_unicode_utf8_acceptRanges), ("postmark/token.names", laid_postmark_token_names), ("unicode/utf8.first", laid_unicode_utf8_first)], narrowed := true }
def TokenTellsUptoSaid : Prop := tokenTellsUptoRow.holds Tryd.pinned (OpenSpec.upto tokenTellsSpec)

/-- 'postmarklaw14.TokenNames', WHERE WHAT IT READS IS OF BULK AT MOST 1048576: true; the input reads as it did. -/
def tokenNamesUptoRow : OpenClaim := { program := "ytbgebolamkfnlaadoor", sum := "5784339669aece6f3dd149140b1968887035cbe4c3061ae33bc31e6988fd19f1", func := "postmark/postmarklaw14.TokenNames", spec := "tokenNames", inPlace := ["internal/bytealg.CountString", "internal/bytealg.IndexByteString", "internal/bytealg.IndexString", "internal/abi.NoEscape", "internal/bytealg.MakeNoZero"], unfollowed := true, recurses := true, named := ["unicode/utf8.first", "unicode/utf8.acceptRanges", "internal/bytealg.MaxLen", "postmark/token.names"], apart := false, laid := [("unicode/utf8.acceptRanges", laid_unicode_utf8_acceptRanges), ("postmark/token.names", laid_postmark_token_names), ("unicode/utf8.first", laid_unicode_utf8_first)], narrowed := true }
def TokenNamesUptoSaid : Prop := tokenNamesUptoRow.holds Tryd.pinned (OpenSpec.upto tokenNamesSpec)

/-- 'postmarklaw14.TokenLast', WHERE WHAT IT READS IS OF BULK AT MOST 1048576: true; the input reads as it did. -/
def tokenLastUptoRow : OpenClaim := { program := "ytbgebolamkfnlaadoor", sum := "5784339669aece6f3dd149140b1968887035cbe4c3061ae33bc31e6988fd19f1", func := "postmark/postmarklaw14.TokenLast", spec := "tokenLast", inPlace := ["internal/bytealg.CountString", "internal/bytealg.IndexByteString", "internal/bytealg.IndexString", "internal/abi.NoEscape", "internal/bytealg.MakeNoZero"], unfollowed := true, recurses := true, named := ["unicode/utf8.first", "unicode/utf8.acceptRanges", "internal/bytealg.MaxLen", "postmark/token.names"], apart := false, laid := [("unicode/utf8.acceptRanges", laid_unicode_utf8_acceptRanges), ("postmark/token.names", laid_postmark_token_names), ("unicode/utf8.first", laid_unicode_utf8_first)], narrowed := true }
def TokenLastUptoSaid : Prop := tokenLastUptoRow.holds Tryd.pinned (OpenSpec.upto tokenLastSpec)

/-- 'postmarklaw14.TokenTold', WHERE WHAT IT READS IS OF BULK AT MOST 1048576: true; the input reads as it did. -/
def tokenToldUptoRow : OpenClaim := { program := "ytbgebolamkfnlaadoor", sum := "5784339669aece6f3dd149140b1968887035cbe4c3061ae33bc31e6988fd19f1", func := "postmark/postmarklaw14.TokenTold", spec := "tokenTold", inPlace := ["internal/bytealg.CountString", "internal/bytealg.IndexByteString", "internal/bytealg.IndexString", "internal/abi.NoEscape", "internal/bytealg.MakeNoZero"], unfollowed := true, recurses := true, named := ["unicode/utf8.first", "unicode/utf8.acceptRanges", "internal/bytealg.MaxLen", "postmark/token.names"], apart := false, laid := [("unicode/utf8.acceptRanges", laid_unicode_utf8_acceptRanges), ("postmark/token.names", laid_postmark_token_names), ("unicode/utf8.first", laid_unicode_utf8_first)], narrowed := true }
def TokenToldUptoSaid : Prop := tokenToldUptoRow.holds Tryd.pinned (OpenSpec.upto tokenToldSpec)

/-- 'postmarklaw14.TokenSplit', WHERE WHAT IT READS IS OF BULK AT MOST 1048576: true; the input reads as it did. -/
def tokenSplitUptoRow : OpenClaim := { program := "ytbgebolamkfnlaadoor", sum := "5784339669aece6f3dd149140b1968887035cbe4c3061ae33bc31e6988fd19f1", func := "postmark/postmarklaw14.TokenSplit", spec := "tokenSplit", inPlace := ["internal/bytealg.CountString", "internal/bytealg.IndexByteString", "internal/bytealg.IndexString", "internal/abi.NoEscape", "internal/bytealg.MakeNoZero"], unfollowed := true, recurses := true, named := ["unicode/utf8.first", "unicode/utf8.acceptRanges", "internal/bytealg.MaxLen", "postmark/token.names"], apart := false, laid := [("unicode/utf8.acceptRanges", laid_unicode_utf8_acceptRanges), ("postmark/token.names", laid_postmark_token_names), ("unicode/utf8.first", laid_unicode_utf8_first)], narrowed := true }
def TokenSplitUptoSaid : Prop := tokenSplitUptoRow.holds Tryd.pinned (OpenSpec.upto tokenSplitSpec)

/-- 'postmarklaw14.TokenPolicy', WHERE WHAT IT READS IS OF BULK AT MOST 1048576: true; the input reads as it did. -/
def tokenPolicyUptoRow : OpenClaim := { program := "ytbgebolamkfnlaadoor", sum := "5784339669aece6f3dd149140b1968887035cbe4c3061ae33bc31e6988fd19f1", func := "postmark/postmarklaw14.TokenPolicy", spec := "tokenPolicy", inPlace := ["internal/bytealg.CountString", "internal/bytealg.IndexByteString", "internal/bytealg.IndexString", "internal/abi.NoEscape", "internal/bytealg.MakeNoZero"], unfollowed := true, recurses := true, named := ["unicode/utf8.first", "unicode/utf8.acceptRanges", "internal/bytealg.MaxLen", "postmark/token.names"], apart := false, laid := [("unicode/utf8.acceptRanges", laid_unicode_utf8_acceptRanges), ("postmark/token.names", laid_postmark_token_names), ("unicode/utf8.first", laid_unicode_utf8_first)], narrowed := true }
def TokenPolicyUptoSaid : Prop := tokenPolicyUptoRow.holds Tryd.pinned (OpenSpec.upto tokenPolicySpec)

end Rows
end Go.Proofs.YtbgebolamkfnlaaDoor
