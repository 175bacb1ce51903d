/-
  No cell of these rows narrows 'for every input' (looked for: loops, veiled, ifaces, maps, wideKeys, modest, calm, conditions, laid).
  DERIVED. THE GIVEN ROWS OF THIS SEAT. 6 by the template 'for every input the law returns true; each argument reads behind the call as it read before'; 0 by the template 'total and deterministic' (their statements: YtkhpbcdjmcpgdaaTotals.lean).
  GIVEN WITH THE SEED: the statements are not yours to turn. If you find one false, say at which input.
  Laid BY PROGRAM, IN A SANDBOX (cutbox-rows.mjs): the forced cells as the released guide's own fill.sh prints them over the translation 124fa050612714a1… (all of the seat's roots in one cut). By AI agents, Wed Nov 11 2026. No macro, syntax, notation, axiom, sorry.
-/
import Derived.Test.YtkhpbcdjmcpgdaaChecked
import GoSem.Claim
import GoSem.ClaimJoined
import GoSem.ClaimMapViews
import Derived.JoinedTies
import Derived.KernelRfl
namespace Go.Proofs.Ytkhpbcdjmcpgdaa
/- THE CELL 'sum', in the pinned program and in every row, IS THE sha256 OF THE DUMP (.gsa) THAT YtkhpbcdjmcpgdaaProg.lean LOADS. Nothing in Lean hashes anything: it is a label: what it is worth is what the hold of that sum in a sandbox is worth. -/
noncomputable def Try.pinned : Pinned := { name := "ytkhpbcdjmcpgdaa", sum := "124fa050612714a1bda98cd851f5d79a0120e3829c890ab110db527238b86ce1", checked := Try.checked }
namespace Rows
def none {H : Type} : Left H := { results := [], args := [] }

/-- 'postmarklaw04.IsoTells': WHATEVER THE INPUT: true; the input reads as it did. -/
def isoTellsSpec : ChangeSpec := { name := "isoTells", fn := fun _ => fun
  | [d] => { results := [.lit (.bool true)], args := [d] }
  | _ => none }
def isoTellsRow : OpenClaim := { program := "ytkhpbcdjmcpgdaa", sum := "124fa050612714a1bda98cd851f5d79a0120e3829c890ab110db527238b86ce1", func := "postmark/postmarklaw04.IsoTells", spec := "isoTells", apart := false }
def IsoTellsSaid : Prop := isoTellsRow.holds Try.pinned (OpenSpec.ofChange isoTellsSpec)

/-- ITS FALSE NEIGHBOUR: 'it returns false'. Refute it at one input. -/
def isoTellsWrong : ChangeSpec := { name := "isoTells", fn := fun _ => fun
  | [d] => { results := [.lit (.bool false)], args := [d] }
  | _ => none }
def IsoTellsWrongFalsely : Prop := isoTellsRow.holds Try.pinned (OpenSpec.ofChange isoTellsWrong)

/-- 'postmarklaw04.IsoBack': WHATEVER THE INPUT: true; the input reads as it did. -/
def isoBackSpec : ChangeSpec := { name := "isoBack", fn := fun _ => fun
  | [d] => { results := [.lit (.bool true)], args := [d] }
  | _ => none }
def isoBackRow : OpenClaim := { program := "ytkhpbcdjmcpgdaa", sum := "124fa050612714a1bda98cd851f5d79a0120e3829c890ab110db527238b86ce1", func := "postmark/postmarklaw04.IsoBack", spec := "isoBack", apart := false }
def IsoBackSaid : Prop := isoBackRow.holds Try.pinned (OpenSpec.ofChange isoBackSpec)

/-- ITS FALSE NEIGHBOUR: 'it returns false'. Refute it at one input. -/
def isoBackWrong : ChangeSpec := { name := "isoBack", fn := fun _ => fun
  | [d] => { results := [.lit (.bool false)], args := [d] }
  | _ => none }
def IsoBackWrongFalsely : Prop := isoBackRow.holds Try.pinned (OpenSpec.ofChange isoBackWrong)

/-- 'postmarklaw04.IsoPlain': WHATEVER THE INPUT: true; the input reads as it did. -/
def isoPlainSpec : ChangeSpec := { name := "isoPlain", fn := fun _ => fun
  | [d] => { results := [.lit (.bool true)], args := [d] }
  | _ => none }
def isoPlainRow : OpenClaim := { program := "ytkhpbcdjmcpgdaa", sum := "124fa050612714a1bda98cd851f5d79a0120e3829c890ab110db527238b86ce1", func := "postmark/postmarklaw04.IsoPlain", spec := "isoPlain", apart := false }
def IsoPlainSaid : Prop := isoPlainRow.holds Try.pinned (OpenSpec.ofChange isoPlainSpec)

/-- ITS FALSE NEIGHBOUR: 'it returns false'. Refute it at one input. -/
def isoPlainWrong : ChangeSpec := { name := "isoPlain", fn := fun _ => fun
  | [d] => { results := [.lit (.bool false)], args := [d] }
  | _ => none }
def IsoPlainWrongFalsely : Prop := isoPlainRow.holds Try.pinned (OpenSpec.ofChange isoPlainWrong)

/-- 'postmarklaw04.IsoParts': WHATEVER THE INPUT: true; the input reads as it did. -/
def isoPartsSpec : ChangeSpec := { name := "isoParts", fn := fun _ => fun
  | [d1, d2] => { results := [.lit (.bool true)], args := [d1, d2] }
  | _ => none }
def isoPartsRow : OpenClaim := { program := "ytkhpbcdjmcpgdaa", sum := "124fa050612714a1bda98cd851f5d79a0120e3829c890ab110db527238b86ce1", func := "postmark/postmarklaw04.IsoParts", spec := "isoParts", apart := false }
def IsoPartsSaid : Prop := isoPartsRow.holds Try.pinned (OpenSpec.ofChange isoPartsSpec)

/-- ITS FALSE NEIGHBOUR: 'it returns false'. Refute it at one input. -/
def isoPartsWrong : ChangeSpec := { name := "isoParts", fn := fun _ => fun
  | [d1, d2] => { results := [.lit (.bool false)], args := [d1, d2] }
  | _ => none }
def IsoPartsWrongFalsely : Prop := isoPartsRow.holds Try.pinned (OpenSpec.ofChange isoPartsWrong)

/-- 'postmarklaw04.IsoByte': WHATEVER THE INPUT: true; the input reads as it did. -/
def isoByteSpec : ChangeSpec := { name := "isoByte", fn := fun _ => fun
  | [d1, d2, d3] => { results := [.lit (.bool true)], args := [d1, d2, d3] }
  | _ => none }
def isoByteRow : OpenClaim := { program := "ytkhpbcdjmcpgdaa", sum := "124fa050612714a1bda98cd851f5d79a0120e3829c890ab110db527238b86ce1", func := "postmark/postmarklaw04.IsoByte", spec := "isoByte", apart := false }
def IsoByteSaid : Prop := isoByteRow.holds Try.pinned (OpenSpec.ofChange isoByteSpec)

/-- ITS FALSE NEIGHBOUR: 'it returns false'. Refute it at one input. -/
def isoByteWrong : ChangeSpec := { name := "isoByte", fn := fun _ => fun
  | [d1, d2, d3] => { results := [.lit (.bool false)], args := [d1, d2, d3] }
  | _ => none }
def IsoByteWrongFalsely : Prop := isoByteRow.holds Try.pinned (OpenSpec.ofChange isoByteWrong)

/-- 'postmarklaw04.IsoCount': WHATEVER THE INPUT: true; the input reads as it did. -/
def isoCountSpec : ChangeSpec := { name := "isoCount", fn := fun _ => fun
  | [d1, d2] => { results := [.lit (.bool true)], args := [d1, d2] }
  | _ => none }
def isoCountRow : OpenClaim := { program := "ytkhpbcdjmcpgdaa", sum := "124fa050612714a1bda98cd851f5d79a0120e3829c890ab110db527238b86ce1", func := "postmark/postmarklaw04.IsoCount", spec := "isoCount", apart := false }
def IsoCountSaid : Prop := isoCountRow.holds Try.pinned (OpenSpec.ofChange isoCountSpec)

/-- ITS FALSE NEIGHBOUR: 'it returns false'. Refute it at one input. -/
def isoCountWrong : ChangeSpec := { name := "isoCount", fn := fun _ => fun
  | [d1, d2] => { results := [.lit (.bool false)], args := [d1, d2] }
  | _ => none }
def IsoCountWrongFalsely : Prop := isoCountRow.holds Try.pinned (OpenSpec.ofChange isoCountWrong)

/- THE SECOND FORM. 'bulk': how many values and letters a reading holds, each counted each time it is reached (what is shared counts as often as it is met; a slice's spare places count too). A statement '..UptoSaid' is the law's where the arguments, and the package variables that the reading takes, are together of bulk at most 1048576: NARROWER than '..Said'. Prove '..Said' where nothing that the law and all that it calls make is longer than what came in: it says more and counts as full. Else prove '..UptoSaid'. A law counts once. -/
mutual
def uptoBulk {H : Type} : DataW H → Nat
  | .lit (.string bytes) => bytes.length + 1
  | .lit _ => 1
  | .nil => 1
  | .ptr d => uptoBulk d + 1
  | .slice elems spare => uptoBulkAll elems + uptoBulkAll spare + 1
  | .agg parts => uptoBulkAll parts + 1
  | .iface _ d => uptoBulk d + 1
  | .map entries => uptoBulkEntries entries + 1
  | .held _ => 1
def uptoBulkAll {H : Type} : List (DataW H) → Nat
  | [] => 0
  | d :: r => uptoBulk d + uptoBulkAll r
def uptoBulkEntries {H : Type} : List (Lit × DataW H) → Nat
  | [] => 0
  | x :: r => uptoBulkEntry x + uptoBulkEntries r
def uptoBulkEntry {H : Type} : Lit × DataW H → Nat
  | (.string bytes, d) => bytes.length + uptoBulk d + 1
  | (_, d) => uptoBulk d + 1
 end
def uptoSmall : (H : Type) → List (DataW H) → Bool := fun _ ds => decide (uptoBulkAll ds ≤ 1048576)
def OpenSpec.upto (s : _root_.Go.ChangeSpec) : _root_.Go.OpenSpec := { _root_.Go.OpenSpec.ofChange s with cond := some uptoSmall }

/-- 'postmarklaw04.IsoTells', WHERE WHAT IT READS IS OF BULK AT MOST 1048576: true; the input reads as it did. -/
def isoTellsUptoRow : OpenClaim := { program := "ytkhpbcdjmcpgdaa", sum := "124fa050612714a1bda98cd851f5d79a0120e3829c890ab110db527238b86ce1", func := "postmark/postmarklaw04.IsoTells", spec := "isoTells", apart := false, narrowed := true }
def IsoTellsUptoSaid : Prop := isoTellsUptoRow.holds Try.pinned (OpenSpec.upto isoTellsSpec)

/-- 'postmarklaw04.IsoBack', WHERE WHAT IT READS IS OF BULK AT MOST 1048576: true; the input reads as it did. -/
def isoBackUptoRow : OpenClaim := { program := "ytkhpbcdjmcpgdaa", sum := "124fa050612714a1bda98cd851f5d79a0120e3829c890ab110db527238b86ce1", func := "postmark/postmarklaw04.IsoBack", spec := "isoBack", apart := false, narrowed := true }
def IsoBackUptoSaid : Prop := isoBackUptoRow.holds Try.pinned (OpenSpec.upto isoBackSpec)

/-- 'postmarklaw04.IsoPlain', WHERE WHAT IT READS IS OF BULK AT MOST 1048576: true; the input reads as it did. -/
def isoPlainUptoRow : OpenClaim := { program := "ytkhpbcdjmcpgdaa", sum := "124fa050612714a1bda98cd851f5d79a0120e3829c890ab110db527238b86ce1", func := "postmark/postmarklaw04.IsoPlain", spec := "isoPlain", apart := false, narrowed := true }
def IsoPlainUptoSaid : Prop := isoPlainUptoRow.holds Try.pinned (OpenSpec.upto isoPlainSpec)

/-- 'postmarklaw04.IsoParts', WHERE WHAT IT READS IS OF BULK AT MOST 1048576: true; the input reads as it did. -/
def isoPartsUptoRow : OpenClaim := { program := "ytkhpbcdjmcpgdaa", sum := "124fa050612714a1bda98cd851f5d79a0120e3829c890ab110db527238b86ce1", func := "postmark/postmarklaw04.IsoParts", spec := "isoParts", apart := false, narrowed := true }
def IsoPartsUptoSaid : Prop := isoPartsUptoRow.holds Try.pinned (OpenSpec.upto isoPartsSpec)

/-- 'postmarklaw04.IsoByte', WHERE WHAT IT READS IS OF BULK AT MOST 1048576: true; the input reads as it did. -/
def isoByteUptoRow : OpenClaim := { program := "ytkhpbcdjmcpgdaa", sum := "124fa050612714a1bda98cd851f5d79a0120e3829c890ab110db527238b86ce1", func := "postmark/postmarklaw04.IsoByte", spec := "isoByte", apart := false, narrowed := true }
def IsoByteUptoSaid : Prop := isoByteUptoRow.holds Try.pinned (OpenSpec.upto isoByteSpec)

/-- 'postmarklaw04.IsoCount', WHERE WHAT IT READS IS OF BULK AT MOST 1048576: true; the input reads as it did. -/
def isoCountUptoRow : OpenClaim := { program := "ytkhpbcdjmcpgdaa", sum := "124fa050612714a1bda98cd851f5d79a0120e3829c890ab110db527238b86ce1", func := "postmark/postmarklaw04.IsoCount", spec := "isoCount", apart := false, narrowed := true }
def IsoCountUptoSaid : Prop := isoCountUptoRow.holds Try.pinned (OpenSpec.upto isoCountSpec)

end Rows
end Go.Proofs.Ytkhpbcdjmcpgdaa
