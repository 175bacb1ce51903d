/-
  No cell of these rows narrows 'for every input' (looked for: loops, veiled, ifaces, maps, wideKeys, modest, calm, conditions, laid).
  DERIVED. THE GIVEN ROWS OF THIS SEAT. 6 by the template 'for every input the law returns true; each argument reads behind the call as it read before'; 0 by the template 'total and deterministic' (their statements: YtmhoooenolackaaTotals.lean).
  GIVEN WITH THE SEED: the statements are not yours to turn. If you find one false, say at which input.
  Laid BY PROGRAM, IN A SANDBOX (cutbox-rows.mjs): the forced cells as the released guide's own fill.sh prints them over the translation a1083442bcb99026… (all of the seat's roots in one cut). By AI agents, Wed Nov 11 2026. No macro, syntax, notation, axiom, sorry.
-/
import Derived.Test.YtmhoooenolackaaChecked
import GoSem.Claim
import GoSem.ClaimJoined
import GoSem.ClaimMapViews
import Derived.JoinedTies
import Derived.KernelRfl
namespace Go.Proofs.Ytmhoooenolackaa
/- THE CELL 'sum', in the pinned program and in every row, IS THE sha256 OF THE DUMP (.gsa) THAT YtmhoooenolackaaProg.lean LOADS. Nothing in Lean hashes anything: it is a label: what it is worth is what the hold of that sum in a sandbox is worth. -/
noncomputable def Try.pinned : Pinned := { name := "ytmhoooenolackaa", sum := "a1083442bcb990264208b61ff30fa4c2025ef364d87eb39c821f19b1ed2036c4", checked := Try.checked }
namespace Rows
def none {H : Type} : Left H := { results := [], args := [] }

/-- 'postmarklaw01.AsciiTells': WHATEVER THE INPUT: true; the input reads as it did. -/
def asciiTellsSpec : ChangeSpec := { name := "asciiTells", fn := fun _ => fun
  | [d1, d2, d3] => { results := [.lit (.bool true)], args := [d1, d2, d3] }
  | _ => none }
def asciiTellsRow : OpenClaim := { program := "ytmhoooenolackaa", sum := "a1083442bcb990264208b61ff30fa4c2025ef364d87eb39c821f19b1ed2036c4", func := "postmark/postmarklaw01.AsciiTells", spec := "asciiTells", unfollowed := true, recurses := true, apart := false }
def AsciiTellsSaid : Prop := asciiTellsRow.holds Try.pinned (OpenSpec.ofChange asciiTellsSpec)

/-- ITS FALSE NEIGHBOUR: 'it returns false'. Refute it at one input. -/
def asciiTellsWrong : ChangeSpec := { name := "asciiTells", fn := fun _ => fun
  | [d1, d2, d3] => { results := [.lit (.bool false)], args := [d1, d2, d3] }
  | _ => none }
def AsciiTellsWrongFalsely : Prop := asciiTellsRow.holds Try.pinned (OpenSpec.ofChange asciiTellsWrong)

/-- 'postmarklaw01.AsciiTwice': WHATEVER THE INPUT: true; the input reads as it did. -/
def asciiTwiceSpec : ChangeSpec := { name := "asciiTwice", fn := fun _ => fun
  | [d] => { results := [.lit (.bool true)], args := [d] }
  | _ => none }
def asciiTwiceRow : OpenClaim := { program := "ytmhoooenolackaa", sum := "a1083442bcb990264208b61ff30fa4c2025ef364d87eb39c821f19b1ed2036c4", func := "postmark/postmarklaw01.AsciiTwice", spec := "asciiTwice", unfollowed := true, recurses := true, apart := false }
def AsciiTwiceSaid : Prop := asciiTwiceRow.holds Try.pinned (OpenSpec.ofChange asciiTwiceSpec)

/-- ITS FALSE NEIGHBOUR: 'it returns false'. Refute it at one input. -/
def asciiTwiceWrong : ChangeSpec := { name := "asciiTwice", fn := fun _ => fun
  | [d] => { results := [.lit (.bool false)], args := [d] }
  | _ => none }
def AsciiTwiceWrongFalsely : Prop := asciiTwiceRow.holds Try.pinned (OpenSpec.ofChange asciiTwiceWrong)

/-- 'postmarklaw01.AsciiLower': WHATEVER THE INPUT: true; the input reads as it did. -/
def asciiLowerSpec : ChangeSpec := { name := "asciiLower", fn := fun _ => fun
  | [d1, d2, d3] => { results := [.lit (.bool true)], args := [d1, d2, d3] }
  | _ => none }
def asciiLowerRow : OpenClaim := { program := "ytmhoooenolackaa", sum := "a1083442bcb990264208b61ff30fa4c2025ef364d87eb39c821f19b1ed2036c4", func := "postmark/postmarklaw01.AsciiLower", spec := "asciiLower", unfollowed := true, recurses := true, apart := false }
def AsciiLowerSaid : Prop := asciiLowerRow.holds Try.pinned (OpenSpec.ofChange asciiLowerSpec)

/-- ITS FALSE NEIGHBOUR: 'it returns false'. Refute it at one input. -/
def asciiLowerWrong : ChangeSpec := { name := "asciiLower", fn := fun _ => fun
  | [d1, d2, d3] => { results := [.lit (.bool false)], args := [d1, d2, d3] }
  | _ => none }
def AsciiLowerWrongFalsely : Prop := asciiLowerRow.holds Try.pinned (OpenSpec.ofChange asciiLowerWrong)

/-- 'postmarklaw01.AsciiTrim': WHATEVER THE INPUT: true; the input reads as it did. -/
def asciiTrimSpec : ChangeSpec := { name := "asciiTrim", fn := fun _ => fun
  | [d1, d2, d3, d4] => { results := [.lit (.bool true)], args := [d1, d2, d3, d4] }
  | _ => none }
def asciiTrimRow : OpenClaim := { program := "ytmhoooenolackaa", sum := "a1083442bcb990264208b61ff30fa4c2025ef364d87eb39c821f19b1ed2036c4", func := "postmark/postmarklaw01.AsciiTrim", spec := "asciiTrim", unfollowed := true, recurses := true, apart := false }
def AsciiTrimSaid : Prop := asciiTrimRow.holds Try.pinned (OpenSpec.ofChange asciiTrimSpec)

/-- ITS FALSE NEIGHBOUR: 'it returns false'. Refute it at one input. -/
def asciiTrimWrong : ChangeSpec := { name := "asciiTrim", fn := fun _ => fun
  | [d1, d2, d3, d4] => { results := [.lit (.bool false)], args := [d1, d2, d3, d4] }
  | _ => none }
def AsciiTrimWrongFalsely : Prop := asciiTrimRow.holds Try.pinned (OpenSpec.ofChange asciiTrimWrong)

/-- 'postmarklaw01.AsciiHex': WHATEVER THE INPUT: true; the input reads as it did. -/
def asciiHexSpec : ChangeSpec := { name := "asciiHex", fn := fun _ => fun
  | [d1, d2] => { results := [.lit (.bool true)], args := [d1, d2] }
  | _ => none }
def asciiHexRow : OpenClaim := { program := "ytmhoooenolackaa", sum := "a1083442bcb990264208b61ff30fa4c2025ef364d87eb39c821f19b1ed2036c4", func := "postmark/postmarklaw01.AsciiHex", spec := "asciiHex", unfollowed := true, recurses := true, apart := false }
def AsciiHexSaid : Prop := asciiHexRow.holds Try.pinned (OpenSpec.ofChange asciiHexSpec)

/-- ITS FALSE NEIGHBOUR: 'it returns false'. Refute it at one input. -/
def asciiHexWrong : ChangeSpec := { name := "asciiHex", fn := fun _ => fun
  | [d1, d2] => { results := [.lit (.bool false)], args := [d1, d2] }
  | _ => none }
def AsciiHexWrongFalsely : Prop := asciiHexRow.holds Try.pinned (OpenSpec.ofChange asciiHexWrong)

/-- 'postmarklaw01.AsciiClean': WHATEVER THE INPUT: true; the input reads as it did. -/
def asciiCleanSpec : ChangeSpec := { name := "asciiClean", fn := fun _ => fun
  | [d1, d2] => { results := [.lit (.bool true)], args := [d1, d2] }
  | _ => none }
def asciiCleanRow : OpenClaim := { program := "ytmhoooenolackaa", sum := "a1083442bcb990264208b61ff30fa4c2025ef364d87eb39c821f19b1ed2036c4", func := "postmark/postmarklaw01.AsciiClean", spec := "asciiClean", unfollowed := true, recurses := true, apart := false }
def AsciiCleanSaid : Prop := asciiCleanRow.holds Try.pinned (OpenSpec.ofChange asciiCleanSpec)

/-- ITS FALSE NEIGHBOUR: 'it returns false'. Refute it at one input. -/
def asciiCleanWrong : ChangeSpec := { name := "asciiClean", fn := fun _ => fun
  | [d1, d2] => { results := [.lit (.bool false)], args := [d1, d2] }
  | _ => none }
def AsciiCleanWrongFalsely : Prop := asciiCleanRow.holds Try.pinned (OpenSpec.ofChange asciiCleanWrong)

/- THE SECOND FORM. 'bulk': how many values and letters a reading holds, each counted each time it is reached (what is shared counts as often as it is met; a slice's spare places count too). A statement '..UptoSaid' is the law's where the arguments, and the package variables that the reading takes, are together of bulk at most 1048576: NARROWER than '..Said'. Prove '..Said' where nothing that the law and all that it calls make is longer than what came in: it says more and counts as full. Else prove '..UptoSaid'. A law counts once. -/
mutual
def uptoBulk {H : Type} : DataW H → Nat
  | .lit (.string bytes) => bytes.length + 1
  | .lit _ => 1
  | .nil => 1
  | .ptr d => uptoBulk d + 1
  | .slice elems spare => uptoBulkAll elems + uptoBulkAll spare + 1
  | .agg parts => uptoBulkAll parts + 1
  | .iface _ d => uptoBulk d + 1
  | .map entries => uptoBulkEntries entries + 1
  | .held _ => 1
def uptoBulkAll {H : Type} : List (DataW H) → Nat
  | [] => 0
  | d :: r => uptoBulk d + uptoBulkAll r
def uptoBulkEntries {H : Type} : List (Lit × DataW H) → Nat
  | [] => 0
  | x :: r => uptoBulkEntry x + uptoBulkEntries r
def uptoBulkEntry {H : Type} : Lit × DataW H → Nat
  | (.string bytes, d) => bytes.length + uptoBulk d + 1
  | (_, d) => uptoBulk d + 1
 end
def uptoSmall : (H : Type) → List (DataW H) → Bool := fun _ ds => decide (uptoBulkAll ds ≤ 1048576)
def OpenSpec.upto (s : _root_.Go.ChangeSpec) : _root_.Go.OpenSpec := { _root_.Go.OpenSpec.ofChange s with cond := some uptoSmall }

/-- 'postmarklaw01.AsciiTells', WHERE WHAT IT READS IS OF BULK AT MOST 1048576: true; the input reads as it did. -/
def asciiTellsUptoRow : OpenClaim := { program := "ytmhoooenolackaa", sum := "a1083442bcb990264208b61ff30fa4c2025ef364d87eb39c821f19b1ed2036c4", func := "postmark/postmarklaw01.AsciiTells", spec := "asciiTells", unfollowed := true, recurses := true, apart := false, narrowed := true }
def AsciiTellsUptoSaid : Prop := asciiTellsUptoRow.holds Try.pinned (OpenSpec.upto asciiTellsSpec)

/-- 'postmarklaw01.AsciiTwice', WHERE WHAT IT READS IS OF BULK AT MOST 1048576: true; the input reads as it did. -/
def asciiTwiceUptoRow : OpenClaim := { program := "ytmhoooenolackaa", sum := "a1083442bcb990264208b61ff30fa4c2025ef364d87eb39c821f19b1ed2036c4", func := "postmark/postmarklaw01.AsciiTwice", spec := "asciiTwice", unfollowed := true, recurses := true, apart := false, narrowed := true }
def AsciiTwiceUptoSaid : Prop := asciiTwiceUptoRow.holds Try.pinned (OpenSpec.upto asciiTwiceSpec)

/-- 'postmarklaw01.AsciiLower', WHERE WHAT IT READS IS OF BULK AT MOST 1048576: true; the input reads as it did. -/
def asciiLowerUptoRow : OpenClaim := { program := "ytmhoooenolackaa", sum := "a1083442bcb990264208b61ff30fa4c2025ef364d87eb39c821f19b1ed2036c4", func := "postmark/postmarklaw01.AsciiLower", spec := "asciiLower", unfollowed := true, recurses := true, apart := false, narrowed := true }
def AsciiLowerUptoSaid : Prop := asciiLowerUptoRow.holds Try.pinned (OpenSpec.upto asciiLowerSpec)

/-- 'postmarklaw01.AsciiTrim', WHERE WHAT IT READS IS OF BULK AT MOST 1048576: true; the input reads as it did. -/
def asciiTrimUptoRow : OpenClaim := { program := "ytmhoooenolackaa", sum := "a1083442bcb990264208b61ff30fa4c2025ef364d87eb39c821f19b1ed2036c4", func := "postmark/postmarklaw01.AsciiTrim", spec := "asciiTrim", unfollowed := true, recurses := true, apart := false, narrowed := true }
def AsciiTrimUptoSaid : Prop := asciiTrimUptoRow.holds Try.pinned (OpenSpec.upto asciiTrimSpec)

/-- 'postmarklaw01.AsciiHex', WHERE WHAT IT READS IS OF BULK AT MOST 1048576: true; the input reads as it did. -/
def asciiHexUptoRow : OpenClaim := { program := "ytmhoooenolackaa", sum := "a1083442bcb990264208b61ff30fa4c2025ef364d87eb39c821f19b1ed2036c4", func := "postmark/postmarklaw01.AsciiHex", spec := "asciiHex", unfollowed := true, recurses := true, apart := false, narrowed := true }
def AsciiHexUptoSaid : Prop := asciiHexUptoRow.holds Try.pinned (OpenSpec.upto asciiHexSpec)

/-- 'postmarklaw01.AsciiClean', WHERE WHAT IT READS IS OF BULK AT MOST 1048576: true; the input reads as it did. -/
def asciiCleanUptoRow : OpenClaim := { program := "ytmhoooenolackaa", sum := "a1083442bcb990264208b61ff30fa4c2025ef364d87eb39c821f19b1ed2036c4", func := "postmark/postmarklaw01.AsciiClean", spec := "asciiClean", unfollowed := true, recurses := true, apart := false, narrowed := true }
def AsciiCleanUptoSaid : Prop := asciiCleanUptoRow.holds Try.pinned (OpenSpec.upto asciiCleanSpec)

end Rows
end Go.Proofs.Ytmhoooenolackaa
