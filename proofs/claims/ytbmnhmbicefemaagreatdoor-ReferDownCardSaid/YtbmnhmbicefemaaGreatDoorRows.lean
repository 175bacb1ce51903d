/-
  NARROWER THAN 'FOR EVERY INPUT', by the rows' own cells (each row's printed sentence says how): ReferTells: laid · ReferMost: laid · ReferBlind: laid · ReferStrict: laid · ReferDown: laid.
  DERIVED. THE GIVEN ROWS OF THIS SEAT. 5 by the template 'for every input the law returns true; each argument reads behind the call as it read before'; 0 by the template 'total and deterministic' (their statements: YtbmnhmbicefemaaGreatDoorTotals.lean).
  GIVEN WITH THE SEED: the statements are not yours to turn. If you find one false, say at which input.
  Laid BY PROGRAM, IN A SANDBOX (cutbox-rows.mjs): the forced cells as the released guide's own fill.sh prints them over the translation 99d8879f2f711bd3… (all of the seat's roots in one cut). By AI agents, Wed Nov 11 2026. No macro, syntax, notation, axiom, sorry.
-/
import Derived.Test.YtbmnhmbicefemaaGreatDoorChecked
import GoSem.PinnedTables
import GoSem.Claim
import GoSem.ClaimJoined
import GoSem.ClaimMapViews
import Derived.JoinedTies
import Derived.KernelRfl
namespace Go.Proofs.YtbmnhmbicefemaaGreatDoor
/- THE CELL 'sum', in the pinned program and in every row, IS THE sha256 OF THE DUMP (.gsa) THAT YtbmnhmbicefemaaGreatDoorProg.lean LOADS. Nothing in Lean hashes anything: it is a label: what it is worth is what the hold of that sum in a sandbox is worth. -/
noncomputable def Tryz.pinned : Pinned := { name := "ytbmnhmbicefemaagreatdoor", sum := "99d8879f2f711bd3e1141f205651eaaca2ceff33cc1a19cdd18df0c3ff636017", checked := Tryz.checked }
namespace Rows
def none {H : Type} : Left H := { results := [], args := [] }

/- WHAT THE LISTED PACKAGE-LEVEL VARIABLES READ AS WHEN THE CALL BEGINS. Each datum BY PROGRAM (the guide's laid-datum.mjs) off the statement by which the dump's own 'gosem.cut.vars' lays the variable. In a bare row this is a premise. The card (YtbmnhmbicefemaaGreatDoorCards.lean) ties it to the program's text. -/
def laid_postmark_policy_levels {H : Type} : DataW H := .agg [.agg [.lit (.int .i64 0), .lit (.int .i64 0), .lit (.int .i64 0), .lit (.int .i64 0)], .agg [.lit (.int .i64 0), .lit (.int .i64 0), .lit (.int .i64 0), .lit (.int .i64 0)], .agg [.lit (.int .i64 2), .lit (.int .i64 2), .lit (.int .i64 0), .lit (.int .i64 0)], .agg [.lit (.int .i64 0), .lit (.int .i64 2), .lit (.int .i64 0), .lit (.int .i64 2)], .agg [.lit (.int .i64 1), .lit (.int .i64 1), .lit (.int .i64 1), .lit (.int .i64 1)], .agg [.lit (.int .i64 1), .lit (.int .i64 1), .lit (.int .i64 0), .lit (.int .i64 0)], .agg [.lit (.int .i64 1), .lit (.int .i64 2), .lit (.int .i64 1), .lit (.int .i64 2)], .agg [.lit (.int .i64 1), .lit (.int .i64 2), .lit (.int .i64 0), .lit (.int .i64 2)], .agg [.lit (.int .i64 2), .lit (.int .i64 2), .lit (.int .i64 2), .lit (.int .i64 2)]]
def laid_unicode_utf8_acceptRanges {H : Type} : DataW H := .agg [.agg [.lit (.int .u8 128), .lit (.int .u8 191)], .agg [.lit (.int .u8 160), .lit (.int .u8 191)], .agg [.lit (.int .u8 128), .lit (.int .u8 159)], .agg [.lit (.int .u8 144), .lit (.int .u8 191)], .agg [.lit (.int .u8 128), .lit (.int .u8 143)], .agg [.lit (.int .u8 0), .lit (.int .u8 0)], .agg [.lit (.int .u8 0), .lit (.int .u8 0)], .agg [.lit (.int .u8 0), .lit (.int .u8 0)], .agg [.lit (.int .u8 0), .lit (.int .u8 0)], .agg [.lit (.int .u8 0), .lit (.int .u8 0)], .agg [.lit (.int .u8 0), .lit (.int .u8 0)], .agg [.lit (.int .u8 0), .lit (.int .u8 0)], .agg [.lit (.int .u8 0), .lit (.int .u8 0)], .agg [.lit (.int .u8 0), .lit (.int .u8 0)], .agg [.lit (.int .u8 0), .lit (.int .u8 0)], .agg [.lit (.int .u8 0), .lit (.int .u8 0)]]
/-- One of Go's own tables, pinned by name: the form's constant. -/
def laid_unicode_utf8_first : DataW Unit := Go.Pinned.utf8First

/-- 'postmarklaw17.ReferTells': WHATEVER THE INPUT: true; the input reads as it did. -/
def referTellsSpec : ChangeSpec := { name := "referTells", fn := fun _ => fun
  | [d1, d2, d3, d4] => { results := [.lit (.bool true)], args := [d1, d2, d3, d4] }
  | _ => none }
def referTellsRow : OpenClaim := { program := "ytbmnhmbicefemaagreatdoor", sum := "99d8879f2f711bd3e1141f205651eaaca2ceff33cc1a19cdd18df0c3ff636017", func := "postmark/postmarklaw17.ReferTells", spec := "referTells", inPlace := ["internal/bytealg.IndexByteString", "internal/bytealg.IndexString", "internal/bytealg.CountString", "internal/abi.NoEscape", "internal/bytealg.MakeNoZero"], unfollowed := true, recurses := true, named := ["internal/bytealg.MaxLen", "unicode/utf8.first", "unicode/utf8.acceptRanges", "postmark/policy.levels"], apart := false, laid := [("postmark/policy.levels", laid_postmark_policy_levels), ("unicode/utf8.acceptRanges", laid_unicode_utf8_acceptRanges), ("unicode/utf8.first", laid_unicode_utf8_first)] }
def ReferTellsSaid : Prop := referTellsRow.holds Tryz.pinned (OpenSpec.ofChange referTellsSpec)

/-- ITS FALSE NEIGHBOUR: 'it returns false'. Refute it at one input. -/
def referTellsWrong : ChangeSpec := { name := "referTells", fn := fun _ => fun
  | [d1, d2, d3, d4] => { results := [.lit (.bool false)], args := [d1, d2, d3, d4] }
  | _ => none }
def ReferTellsWrongFalsely : Prop := referTellsRow.holds Tryz.pinned (OpenSpec.ofChange referTellsWrong)

/-- 'postmarklaw17.ReferMost': WHATEVER THE INPUT: true; the input reads as it did. -/
def referMostSpec : ChangeSpec := { name := "referMost", fn := fun _ => fun
  | [d1, d2, d3] => { results := [.lit (.bool true)], args := [d1, d2, d3] }
  | _ => none }
def referMostRow : OpenClaim := { program := "ytbmnhmbicefemaagreatdoor", sum := "99d8879f2f711bd3e1141f205651eaaca2ceff33cc1a19cdd18df0c3ff636017", func := "postmark/postmarklaw17.ReferMost", spec := "referMost", inPlace := ["internal/bytealg.IndexByteString", "internal/bytealg.IndexString", "internal/bytealg.CountString", "internal/abi.NoEscape", "internal/bytealg.MakeNoZero"], unfollowed := true, recurses := true, named := ["internal/bytealg.MaxLen", "unicode/utf8.first", "unicode/utf8.acceptRanges", "postmark/policy.levels"], apart := false, laid := [("postmark/policy.levels", laid_postmark_policy_levels), ("unicode/utf8.acceptRanges", laid_unicode_utf8_acceptRanges), ("unicode/utf8.first", laid_unicode_utf8_first)] }
def ReferMostSaid : Prop := referMostRow.holds Tryz.pinned (OpenSpec.ofChange referMostSpec)

/-- ITS FALSE NEIGHBOUR: 'it returns false'. Refute it at one input. -/
def referMostWrong : ChangeSpec := { name := "referMost", fn := fun _ => fun
  | [d1, d2, d3] => { results := [.lit (.bool false)], args := [d1, d2, d3] }
  | _ => none }
def ReferMostWrongFalsely : Prop := referMostRow.holds Tryz.pinned (OpenSpec.ofChange referMostWrong)

/-- 'postmarklaw17.ReferBlind': WHATEVER THE INPUT: true; the input reads as it did. -/
def referBlindSpec : ChangeSpec := { name := "referBlind", fn := fun _ => fun
  | [d1, d2, d3, d4] => { results := [.lit (.bool true)], args := [d1, d2, d3, d4] }
  | _ => none }
def referBlindRow : OpenClaim := { program := "ytbmnhmbicefemaagreatdoor", sum := "99d8879f2f711bd3e1141f205651eaaca2ceff33cc1a19cdd18df0c3ff636017", func := "postmark/postmarklaw17.ReferBlind", spec := "referBlind", inPlace := ["internal/bytealg.IndexByteString", "internal/bytealg.IndexString", "internal/bytealg.CountString", "internal/abi.NoEscape", "internal/bytealg.MakeNoZero"], unfollowed := true, recurses := true, named := ["internal/bytealg.MaxLen", "unicode/utf8.first", "unicode/utf8.acceptRanges", "postmark/policy.levels"], apart := false, laid := [("postmark/policy.levels", laid_postmark_policy_levels), ("unicode/utf8.acceptRanges", laid_unicode_utf8_acceptRanges), ("unicode/utf8.first", laid_unicode_utf8_first)] }
def ReferBlindSaid : Prop := referBlindRow.holds Tryz.pinned (OpenSpec.ofChange referBlindSpec)

/-- ITS FALSE NEIGHBOUR: 'it returns false'. Refute it at one input. -/
def referBlindWrong : ChangeSpec := { name := "referBlind", fn := fun _ => fun
  | [d1, d2, d3, d4] => { results := [.lit (.bool false)], args := [d1, d2, d3, d4] }
  | _ => none }
def ReferBlindWrongFalsely : Prop := referBlindRow.holds Tryz.pinned (OpenSpec.ofChange referBlindWrong)

/-- 'postmarklaw17.ReferStrict': WHATEVER THE INPUT: true; the input reads as it did. -/
def referStrictSpec : ChangeSpec := { name := "referStrict", fn := fun _ => fun
  | [d1, d2, d3, d4] => { results := [.lit (.bool true)], args := [d1, d2, d3, d4] }
  | _ => none }
def referStrictRow : OpenClaim := { program := "ytbmnhmbicefemaagreatdoor", sum := "99d8879f2f711bd3e1141f205651eaaca2ceff33cc1a19cdd18df0c3ff636017", func := "postmark/postmarklaw17.ReferStrict", spec := "referStrict", inPlace := ["internal/bytealg.IndexByteString", "internal/bytealg.IndexString", "internal/bytealg.CountString", "internal/abi.NoEscape", "internal/bytealg.MakeNoZero"], unfollowed := true, recurses := true, named := ["internal/bytealg.MaxLen", "unicode/utf8.first", "unicode/utf8.acceptRanges", "postmark/policy.levels"], apart := false, laid := [("postmark/policy.levels", laid_postmark_policy_levels), ("unicode/utf8.acceptRanges", laid_unicode_utf8_acceptRanges), ("unicode/utf8.first", laid_unicode_utf8_first)] }
def ReferStrictSaid : Prop := referStrictRow.holds Tryz.pinned (OpenSpec.ofChange referStrictSpec)

/-- ITS FALSE NEIGHBOUR: 'it returns false'. Refute it at one input. -/
def referStrictWrong : ChangeSpec := { name := "referStrict", fn := fun _ => fun
  | [d1, d2, d3, d4] => { results := [.lit (.bool false)], args := [d1, d2, d3, d4] }
  | _ => none }
def ReferStrictWrongFalsely : Prop := referStrictRow.holds Tryz.pinned (OpenSpec.ofChange referStrictWrong)

/-- 'postmarklaw17.ReferDown': WHATEVER THE INPUT: true; the input reads as it did. -/
def referDownSpec : ChangeSpec := { name := "referDown", fn := fun _ => fun
  | [d1, d2, d3] => { results := [.lit (.bool true)], args := [d1, d2, d3] }
  | _ => none }
def referDownRow : OpenClaim := { program := "ytbmnhmbicefemaagreatdoor", sum := "99d8879f2f711bd3e1141f205651eaaca2ceff33cc1a19cdd18df0c3ff636017", func := "postmark/postmarklaw17.ReferDown", spec := "referDown", inPlace := ["internal/bytealg.IndexByteString", "internal/bytealg.IndexString", "internal/bytealg.CountString", "internal/abi.NoEscape", "internal/bytealg.MakeNoZero"], unfollowed := true, recurses := true, named := ["internal/bytealg.MaxLen", "unicode/utf8.first", "unicode/utf8.acceptRanges", "postmark/policy.levels"], apart := false, laid := [("postmark/policy.levels", laid_postmark_policy_levels), ("unicode/utf8.acceptRanges", laid_unicode_utf8_acceptRanges), ("unicode/utf8.first", laid_unicode_utf8_first)] }
def ReferDownSaid : Prop := referDownRow.holds Tryz.pinned (OpenSpec.ofChange referDownSpec)

/-- ITS FALSE NEIGHBOUR: 'it returns false'. Refute it at one input. -/
def referDownWrong : ChangeSpec := { name := "referDown", fn := fun _ => fun
  | [d1, d2, d3] => { results := [.lit (.bool false)], args := [d1, d2, d3] }
  | _ => none }
def ReferDownWrongFalsely : Prop := referDownRow.holds Tryz.pinned (OpenSpec.ofChange referDownWrong)

/- THE SECOND FORM. 'bulk': how many values and letters a reading holds, each counted each time it is reached (what is shared counts as often as it is met; a slice's spare places count too). A statement '..UptoSaid' is the law's where the arguments, and the package variables that the reading takes, are together of bulk at most 1048576: NARROWER than '..Said'. Prove '..Said' where nothing that the law and all that it calls make is longer than what came in: it says more and counts as full. Else prove '..UptoSaid'. A law counts once. -/
mutual
def uptoBulk {H : Type} : DataW H → Nat
  | .lit (.string bytes) => bytes.length + 1
  | .lit _ => 1
  | .nil => 1
  | .ptr d => uptoBulk d + 1
  | .slice elems spare => uptoBulkAll elems + uptoBulkAll spare + 1
  | .agg parts => uptoBulkAll parts + 1
  | .iface _ d => uptoBulk d + 1
  | .map entries => uptoBulkEntries entries + 1
  | .held _ => 1
def uptoBulkAll {H : Type} : List (DataW H) → Nat
  | [] => 0
  | d :: r => uptoBulk d + uptoBulkAll r
def uptoBulkEntries {H : Type} : List (Lit × DataW H) → Nat
  | [] => 0
  | x :: r => uptoBulkEntry x + uptoBulkEntries r
def uptoBulkEntry {H : Type} : Lit × DataW H → Nat
  | (.string bytes, d) => bytes.length + uptoBulk d + 1
  | (_, d) => uptoBulk d + 1
 end
def uptoSmall : (H : Type) → List (DataW H) → Bool := fun _ ds => decide (uptoBulkAll ds ≤ 1048576)
def OpenSpec.upto (s : _root_.Go.ChangeSpec) : _root_.Go.OpenSpec := { _root_.Go.OpenSpec.ofChange s with cond := some uptoSmall }

/-- 'postmarklaw17.ReferTells', WHERE WHAT IT READS IS OF BULK AT MOST 1048576: true; the input reads as it did. -/
def referTellsUptoRow : OpenClaim := { program := "ytbmnhmbicefemaagreatdoor", sum := "99d8879f2f711bd3e1141f205651eaaca2ceff33cc1a19cdd18df0c3ff636017", func := "postmark/postmarklaw17.ReferTells", spec := "referTells", inPlace := ["internal/bytealg.IndexByteString", "internal/bytealg.IndexString", "internal/bytealg.CountString", "internal/abi.NoEscape", "internal/bytealg.MakeNoZero"], unfollowed := true, recurses := true, named := ["internal/bytealg.MaxLen", "unicode/utf8.first", "unicode/utf8.acceptRanges", "postmark/policy.levels"], apart := false, laid := [("postmark/policy.levels", laid_postmark_policy_levels), ("unicode/utf8.acceptRanges", laid_unicode_utf8_acceptRanges), ("unicode/utf8.first", laid_unicode_utf8_first)], narrowed := true }
def ReferTellsUptoSaid : Prop := referTellsUptoRow.holds Tryz.pinned (OpenSpec.upto referTellsSpec)

/-- 'postmarklaw17.ReferMost', WHERE WHAT IT READS IS OF BULK AT MOST 1048576: true; the input reads as it did. -/
def referMostUptoRow : OpenClaim := { program := "ytbmnhmbicefemaagreatdoor", sum := "99d8879f2f711bd3e1141f205651eaaca2ceff33cc1a19cdd18df0c3ff636017", func := "postmark/postmarklaw17.ReferMost", spec := "referMost", inPlace := ["internal/bytealg.IndexByteString", "internal/bytealg.IndexString", "internal/bytealg.CountString", "internal/abi.NoEscape", "internal/bytealg.MakeNoZero"], unfollowed := true, recurses := true, named := ["internal/bytealg.MaxLen", "unicode/utf8.first", "unicode/utf8.acceptRanges", "postmark/policy.levels"], apart := false, laid := [("postmark/policy.levels", laid_postmark_policy_levels), ("unicode/utf8.acceptRanges", laid_unicode_utf8_acceptRanges), ("unicode/utf8.first", laid_unicode_utf8_first)], narrowed := true }
def ReferMostUptoSaid : Prop := referMostUptoRow.holds Tryz.pinned (OpenSpec.upto referMostSpec)

/-- 'postmarklaw17.ReferBlind', WHERE WHAT IT READS IS OF BULK AT MOST 1048576: true; the input reads as it did. -/
def referBlindUptoRow : OpenClaim := { program := "ytbmnhmbicefemaagreatdoor", sum := "99d8879f2f711bd3e1141f205651eaaca2ceff33cc1a19cdd18df0c3ff636017", func := "postmark/postmarklaw17.ReferBlind", spec := "referBlind", inPlace := ["internal/bytealg.IndexByteString", "internal/bytealg.IndexString", "internal/bytealg.CountString", "internal/abi.NoEscape", "internal/bytealg.MakeNoZero"], unfollowed := true, recurses := true, named := ["internal/bytealg.MaxLen", "unicode/utf8.first", "unicode/utf8.acceptRanges", "postmark/policy.levels"], apart := false, laid := [("postmark/policy.levels", laid_postmark_policy_levels), ("unicode/utf8.acceptRanges", laid_unicode_utf8_acceptRanges), ("unicode/utf8.first", laid_unicode_utf8_first)], narrowed := true }
def ReferBlindUptoSaid : Prop := referBlindUptoRow.holds Tryz.pinned (OpenSpec.upto referBlindSpec)

/-- 'postmarklaw17.ReferStrict', WHERE WHAT IT READS IS OF BULK AT MOST 1048576: true; the input reads as it did. -/
def referStrictUptoRow : OpenClaim := { program := "ytbmnhmbicefemaagreatdoor", sum := "99d8879f2f711bd3e1141f205651eaaca2ceff33cc1a19cdd18df0c3ff636017", func := "postmark/postmarklaw17.ReferStrict", spec := "referStrict", inPlace := ["internal/bytealg.IndexByteString", "internal/bytealg.IndexString", "internal/bytealg.CountString", "internal/abi.NoEscape", "internal/bytealg.MakeNoZero"], unfollowed := true, recurses := true, named := ["internal/bytealg.MaxLen", "unicode/utf8.first", "unicode/utf8.acceptRanges", "postmark/policy.levels"], apart := false, laid := [("postmark/policy.levels", laid_postmark_policy_levels), ("unicode/utf8.acceptRanges", laid_unicode_utf8_acceptRanges), ("unicode/utf8.first", laid_unicode_utf8_first)], narrowed := true }
def ReferStrictUptoSaid : Prop := referStrictUptoRow.holds Tryz.pinned (OpenSpec.upto referStrictSpec)

/-- 'postmarklaw17.ReferDown', WHERE WHAT IT READS IS OF BULK AT MOST 1048576: true; the input reads as it did. -/
def referDownUptoRow : OpenClaim := { program := "ytbmnhmbicefemaagreatdoor", sum := "99d8879f2f711bd3e1141f205651eaaca2ceff33cc1a19cdd18df0c3ff636017", func := "postmark/postmarklaw17.ReferDown", spec := "referDown", inPlace := ["internal/bytealg.IndexByteString", "internal/bytealg.IndexString", "internal/bytealg.CountString", "internal/abi.NoEscape", "internal/bytealg.MakeNoZero"], unfollowed := true, recurses := true, named := ["internal/bytealg.MaxLen", "unicode/utf8.first", "unicode/utf8.acceptRanges", "postmark/policy.levels"], apart := false, laid := [("postmark/policy.levels", laid_postmark_policy_levels), ("unicode/utf8.acceptRanges", laid_unicode_utf8_acceptRanges), ("unicode/utf8.first", laid_unicode_utf8_first)], narrowed := true }
def ReferDownUptoSaid : Prop := referDownUptoRow.holds Tryz.pinned (OpenSpec.upto referDownSpec)

end Rows
end Go.Proofs.YtbmnhmbicefemaaGreatDoor
