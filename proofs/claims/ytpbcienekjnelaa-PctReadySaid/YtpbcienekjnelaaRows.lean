/-
  No cell of these rows narrows 'for every input' (looked for: loops, veiled, ifaces, maps, wideKeys, modest, calm, conditions, laid).
  DERIVED. THE GIVEN ROWS OF THIS SEAT. 7 by the template 'for every input the law returns true; each argument reads behind the call as it read before'; 0 by the template 'total and deterministic' (their statements: YtpbcienekjnelaaTotals.lean).
  GIVEN WITH THE SEED: the statements are not yours to turn. If you find one false, say at which input.
  Laid BY PROGRAM, IN A SANDBOX (cutbox-rows.mjs): the forced cells as the released guide's own fill.sh prints them over the translation 202f3cb6f9a827b5… (all of the seat's roots in one cut). By AI agents, Wed Nov 11 2026. No macro, syntax, notation, axiom, sorry.
-/
import Derived.Test.YtpbcienekjnelaaChecked
import GoSem.Claim
import GoSem.ClaimJoined
import GoSem.ClaimMapViews
import Derived.JoinedTies
import Derived.KernelRfl
namespace Go.Proofs.Ytpbcienekjnelaa
/- THE CELL 'sum', in the pinned program and in every row, IS THE sha256 OF THE DUMP (.gsa) THAT YtpbcienekjnelaaProg.lean LOADS. Nothing in Lean hashes anything: it is a label: what it is worth is what the hold of that sum in a sandbox is worth. -/
noncomputable def Try.pinned : Pinned := { name := "ytpbcienekjnelaa", sum := "202f3cb6f9a827b52911bfacbe8571536a038004eb6bee41e1d8a5d4662d5ddd", checked := Try.checked }
namespace Rows
def none {H : Type} : Left H := { results := [], args := [] }

/-- 'postmarklaw03.PctTells': WHATEVER THE INPUT: true; the input reads as it did. -/
def pctTellsSpec : ChangeSpec := { name := "pctTells", fn := fun _ => fun
  | [d1, d2, d3] => { results := [.lit (.bool true)], args := [d1, d2, d3] }
  | _ => none }
def pctTellsRow : OpenClaim := { program := "ytpbcienekjnelaa", sum := "202f3cb6f9a827b52911bfacbe8571536a038004eb6bee41e1d8a5d4662d5ddd", func := "postmark/postmarklaw03.PctTells", spec := "pctTells", inPlace := ["internal/bytealg.IndexByteString"], unfollowed := true, recurses := true, apart := false }
def PctTellsSaid : Prop := pctTellsRow.holds Try.pinned (OpenSpec.ofChange pctTellsSpec)

/-- ITS FALSE NEIGHBOUR: 'it returns false'. Refute it at one input. -/
def pctTellsWrong : ChangeSpec := { name := "pctTells", fn := fun _ => fun
  | [d1, d2, d3] => { results := [.lit (.bool false)], args := [d1, d2, d3] }
  | _ => none }
def PctTellsWrongFalsely : Prop := pctTellsRow.holds Try.pinned (OpenSpec.ofChange pctTellsWrong)

/-- 'postmarklaw03.PctReady': WHATEVER THE INPUT: true; the input reads as it did. -/
def pctReadySpec : ChangeSpec := { name := "pctReady", fn := fun _ => fun
  | [d1, d2] => { results := [.lit (.bool true)], args := [d1, d2] }
  | _ => none }
def pctReadyRow : OpenClaim := { program := "ytpbcienekjnelaa", sum := "202f3cb6f9a827b52911bfacbe8571536a038004eb6bee41e1d8a5d4662d5ddd", func := "postmark/postmarklaw03.PctReady", spec := "pctReady", inPlace := ["internal/bytealg.IndexByteString"], unfollowed := true, recurses := true, apart := false }
def PctReadySaid : Prop := pctReadyRow.holds Try.pinned (OpenSpec.ofChange pctReadySpec)

/-- ITS FALSE NEIGHBOUR: 'it returns false'. Refute it at one input. -/
def pctReadyWrong : ChangeSpec := { name := "pctReady", fn := fun _ => fun
  | [d1, d2] => { results := [.lit (.bool false)], args := [d1, d2] }
  | _ => none }
def PctReadyWrongFalsely : Prop := pctReadyRow.holds Try.pinned (OpenSpec.ofChange pctReadyWrong)

/-- 'postmarklaw03.PctBack': WHATEVER THE INPUT: true; the input reads as it did. -/
def pctBackSpec : ChangeSpec := { name := "pctBack", fn := fun _ => fun
  | [d1, d2] => { results := [.lit (.bool true)], args := [d1, d2] }
  | _ => none }
def pctBackRow : OpenClaim := { program := "ytpbcienekjnelaa", sum := "202f3cb6f9a827b52911bfacbe8571536a038004eb6bee41e1d8a5d4662d5ddd", func := "postmark/postmarklaw03.PctBack", spec := "pctBack", inPlace := ["internal/bytealg.IndexByteString"], unfollowed := true, recurses := true, apart := false }
def PctBackSaid : Prop := pctBackRow.holds Try.pinned (OpenSpec.ofChange pctBackSpec)

/-- ITS FALSE NEIGHBOUR: 'it returns false'. Refute it at one input. -/
def pctBackWrong : ChangeSpec := { name := "pctBack", fn := fun _ => fun
  | [d1, d2] => { results := [.lit (.bool false)], args := [d1, d2] }
  | _ => none }
def PctBackWrongFalsely : Prop := pctBackRow.holds Try.pinned (OpenSpec.ofChange pctBackWrong)

/-- 'postmarklaw03.PctSets': WHATEVER THE INPUT: true; the input reads as it did. -/
def pctSetsSpec : ChangeSpec := { name := "pctSets", fn := fun _ => fun
  | [d] => { results := [.lit (.bool true)], args := [d] }
  | _ => none }
def pctSetsRow : OpenClaim := { program := "ytpbcienekjnelaa", sum := "202f3cb6f9a827b52911bfacbe8571536a038004eb6bee41e1d8a5d4662d5ddd", func := "postmark/postmarklaw03.PctSets", spec := "pctSets", inPlace := ["internal/bytealg.IndexByteString"], unfollowed := true, recurses := true, apart := false }
def PctSetsSaid : Prop := pctSetsRow.holds Try.pinned (OpenSpec.ofChange pctSetsSpec)

/-- ITS FALSE NEIGHBOUR: 'it returns false'. Refute it at one input. -/
def pctSetsWrong : ChangeSpec := { name := "pctSets", fn := fun _ => fun
  | [d] => { results := [.lit (.bool false)], args := [d] }
  | _ => none }
def PctSetsWrongFalsely : Prop := pctSetsRow.holds Try.pinned (OpenSpec.ofChange pctSetsWrong)

/-- 'postmarklaw03.PctParts': WHATEVER THE INPUT: true; the input reads as it did. -/
def pctPartsSpec : ChangeSpec := { name := "pctParts", fn := fun _ => fun
  | [d1, d2, d3] => { results := [.lit (.bool true)], args := [d1, d2, d3] }
  | _ => none }
def pctPartsRow : OpenClaim := { program := "ytpbcienekjnelaa", sum := "202f3cb6f9a827b52911bfacbe8571536a038004eb6bee41e1d8a5d4662d5ddd", func := "postmark/postmarklaw03.PctParts", spec := "pctParts", inPlace := ["internal/bytealg.IndexByteString"], unfollowed := true, recurses := true, apart := false }
def PctPartsSaid : Prop := pctPartsRow.holds Try.pinned (OpenSpec.ofChange pctPartsSpec)

/-- ITS FALSE NEIGHBOUR: 'it returns false'. Refute it at one input. -/
def pctPartsWrong : ChangeSpec := { name := "pctParts", fn := fun _ => fun
  | [d1, d2, d3] => { results := [.lit (.bool false)], args := [d1, d2, d3] }
  | _ => none }
def PctPartsWrongFalsely : Prop := pctPartsRow.holds Try.pinned (OpenSpec.ofChange pctPartsWrong)

/-- 'postmarklaw03.PctByte': WHATEVER THE INPUT: true; the input reads as it did. -/
def pctByteSpec : ChangeSpec := { name := "pctByte", fn := fun _ => fun
  | [d1, d2] => { results := [.lit (.bool true)], args := [d1, d2] }
  | _ => none }
def pctByteRow : OpenClaim := { program := "ytpbcienekjnelaa", sum := "202f3cb6f9a827b52911bfacbe8571536a038004eb6bee41e1d8a5d4662d5ddd", func := "postmark/postmarklaw03.PctByte", spec := "pctByte", inPlace := ["internal/bytealg.IndexByteString"], unfollowed := true, recurses := true, apart := false }
def PctByteSaid : Prop := pctByteRow.holds Try.pinned (OpenSpec.ofChange pctByteSpec)

/-- ITS FALSE NEIGHBOUR: 'it returns false'. Refute it at one input. -/
def pctByteWrong : ChangeSpec := { name := "pctByte", fn := fun _ => fun
  | [d1, d2] => { results := [.lit (.bool false)], args := [d1, d2] }
  | _ => none }
def PctByteWrongFalsely : Prop := pctByteRow.holds Try.pinned (OpenSpec.ofChange pctByteWrong)

/-- 'postmarklaw03.PctDecode': WHATEVER THE INPUT: true; the input reads as it did. -/
def pctDecodeSpec : ChangeSpec := { name := "pctDecode", fn := fun _ => fun
  | [d1, d2] => { results := [.lit (.bool true)], args := [d1, d2] }
  | _ => none }
def pctDecodeRow : OpenClaim := { program := "ytpbcienekjnelaa", sum := "202f3cb6f9a827b52911bfacbe8571536a038004eb6bee41e1d8a5d4662d5ddd", func := "postmark/postmarklaw03.PctDecode", spec := "pctDecode", inPlace := ["internal/bytealg.IndexByteString"], unfollowed := true, recurses := true, apart := false }
def PctDecodeSaid : Prop := pctDecodeRow.holds Try.pinned (OpenSpec.ofChange pctDecodeSpec)

/-- ITS FALSE NEIGHBOUR: 'it returns false'. Refute it at one input. -/
def pctDecodeWrong : ChangeSpec := { name := "pctDecode", fn := fun _ => fun
  | [d1, d2] => { results := [.lit (.bool false)], args := [d1, d2] }
  | _ => none }
def PctDecodeWrongFalsely : Prop := pctDecodeRow.holds Try.pinned (OpenSpec.ofChange pctDecodeWrong)

/- THE SECOND FORM. 'bulk': how many values and letters a reading holds, each counted each time it is reached (what is shared counts as often as it is met; a slice's spare places count too). A statement '..UptoSaid' is the law's where the arguments, and the package variables that the reading takes, are together of bulk at most 1048576: NARROWER than '..Said'. Prove '..Said' where nothing that the law and all that it calls make is longer than what came in: it says more and counts as full. Else prove '..UptoSaid'. A law counts once. -/
mutual
def uptoBulk {H : Type} : DataW H → Nat
  | .lit (.string bytes) => bytes.length + 1
  | .lit _ => 1
  | .nil => 1
  | .ptr d => uptoBulk d + 1
  | .slice elems spare => uptoBulkAll elems + uptoBulkAll spare + 1
  | .agg parts => uptoBulkAll parts + 1
  | .iface _ d => uptoBulk d + 1
  | .map entries => uptoBulkEntries entries + 1
  | .held _ => 1
def uptoBulkAll {H : Type} : List (DataW H) → Nat
  | [] => 0
  | d :: r => uptoBulk d + uptoBulkAll r
def uptoBulkEntries {H : Type} : List (Lit × DataW H) → Nat
  | [] => 0
  | x :: r => uptoBulkEntry x + uptoBulkEntries r
def uptoBulkEntry {H : Type} : Lit × DataW H → Nat
  | (.string bytes, d) => bytes.length + uptoBulk d + 1
  | (_, d) => uptoBulk d + 1
 end
def uptoSmall : (H : Type) → List (DataW H) → Bool := fun _ ds => decide (uptoBulkAll ds ≤ 1048576)
def OpenSpec.upto (s : _root_.Go.ChangeSpec) : _root_.Go.OpenSpec := { _root_.Go.OpenSpec.ofChange s with cond := some uptoSmall }

/-- 'postmarklaw03.PctTells', WHERE WHAT IT READS IS OF BULK AT MOST 1048576: true; the input reads as it did. -/
def pctTellsUptoRow : OpenClaim := { program := "ytpbcienekjnelaa", sum := "202f3cb6f9a827b52911bfacbe8571536a038004eb6bee41e1d8a5d4662d5ddd", func := "postmark/postmarklaw03.PctTells", spec := "pctTells", inPlace := ["internal/bytealg.IndexByteString"], unfollowed := true, recurses := true, apart := false, narrowed := true }
def PctTellsUptoSaid : Prop := pctTellsUptoRow.holds Try.pinned (OpenSpec.upto pctTellsSpec)

/-- 'postmarklaw03.PctReady', WHERE WHAT IT READS IS OF BULK AT MOST 1048576: true; the input reads as it did. -/
def pctReadyUptoRow : OpenClaim := { program := "ytpbcienekjnelaa", sum := "202f3cb6f9a827b52911bfacbe8571536a038004eb6bee41e1d8a5d4662d5ddd", func := "postmark/postmarklaw03.PctReady", spec := "pctReady", inPlace := ["internal/bytealg.IndexByteString"], unfollowed := true, recurses := true, apart := false, narrowed := true }
def PctReadyUptoSaid : Prop := pctReadyUptoRow.holds Try.pinned (OpenSpec.upto pctReadySpec)

/-- 'postmarklaw03.PctBack', WHERE WHAT IT READS IS OF BULK AT MOST 1048576: true; the input reads as it did. -/
def pctBackUptoRow : OpenClaim := { program := "ytpbcienekjnelaa", sum := "202f3cb6f9a827b52911bfacbe8571536a038004eb6bee41e1d8a5d4662d5ddd", func := "postmark/postmarklaw03.PctBack", spec := "pctBack", inPlace := ["internal/bytealg.IndexByteString"], unfollowed := true, recurses := true, apart := false, narrowed := true }
def PctBackUptoSaid : Prop := pctBackUptoRow.holds Try.pinned (OpenSpec.upto pctBackSpec)

/-- 'postmarklaw03.PctSets', WHERE WHAT IT READS IS OF BULK AT MOST 1048576: true; the input reads as it did. -/
def pctSetsUptoRow : OpenClaim := { program := "ytpbcienekjnelaa", sum := "202f3cb6f9a827b52911bfacbe8571536a038004eb6bee41e1d8a5d4662d5ddd", func := "postmark/postmarklaw03.PctSets", spec := "pctSets", inPlace := ["internal/bytealg.IndexByteString"], unfollowed := true, recurses := true, apart := false, narrowed := true }
def PctSetsUptoSaid : Prop := pctSetsUptoRow.holds Try.pinned (OpenSpec.upto pctSetsSpec)

/-- 'postmarklaw03.PctParts', WHERE WHAT IT READS IS OF BULK AT MOST 1048576: true; the input reads as it did. -/
def pctPartsUptoRow : OpenClaim := { program := "ytpbcienekjnelaa", sum := "202f3cb6f9a827b52911bfacbe8571536a038004eb6bee41e1d8a5d4662d5ddd", func := "postmark/postmarklaw03.PctParts", spec := "pctParts", inPlace := ["internal/bytealg.IndexByteString"], unfollowed := true, recurses := true, apart := false, narrowed := true }
def PctPartsUptoSaid : Prop := pctPartsUptoRow.holds Try.pinned (OpenSpec.upto pctPartsSpec)

/-- 'postmarklaw03.PctByte', WHERE WHAT IT READS IS OF BULK AT MOST 1048576: true; the input reads as it did. -/
def pctByteUptoRow : OpenClaim := { program := "ytpbcienekjnelaa", sum := "202f3cb6f9a827b52911bfacbe8571536a038004eb6bee41e1d8a5d4662d5ddd", func := "postmark/postmarklaw03.PctByte", spec := "pctByte", inPlace := ["internal/bytealg.IndexByteString"], unfollowed := true, recurses := true, apart := false, narrowed := true }
def PctByteUptoSaid : Prop := pctByteUptoRow.holds Try.pinned (OpenSpec.upto pctByteSpec)

/-- 'postmarklaw03.PctDecode', WHERE WHAT IT READS IS OF BULK AT MOST 1048576: true; the input reads as it did. -/
def pctDecodeUptoRow : OpenClaim := { program := "ytpbcienekjnelaa", sum := "202f3cb6f9a827b52911bfacbe8571536a038004eb6bee41e1d8a5d4662d5ddd", func := "postmark/postmarklaw03.PctDecode", spec := "pctDecode", inPlace := ["internal/bytealg.IndexByteString"], unfollowed := true, recurses := true, apart := false, narrowed := true }
def PctDecodeUptoSaid : Prop := pctDecodeUptoRow.holds Try.pinned (OpenSpec.upto pctDecodeSpec)

end Rows
end Go.Proofs.Ytpbcienekjnelaa
