/-
  NARROWER THAN 'FOR EVERY INPUT', by the rows' own cells (each row's printed sentence says how): PolicyTells: laid · PolicyLess: laid · PolicyOrder: laid · PolicyApart: laid · PolicyLevels: laid · PolicyOther: laid.
  DERIVED. THE GIVEN ROWS OF THIS SEAT. 6 by the template 'for every input the law returns true; each argument reads behind the call as it read before'; 0 by the template 'total and deterministic' (their statements: YtbnbdijgdokhhaaDoorTotals.lean).
  GIVEN WITH THE SEED: the statements are not yours to turn. If you find one false, say at which input.
  Laid BY PROGRAM, IN A SANDBOX (cutbox-rows.mjs): the forced cells as the released guide's own fill.sh prints them over the translation 6a986d021809b4e8… (all of the seat's roots in one cut). By AI agents, Wed Nov 11 2026. No macro, syntax, notation, axiom, sorry.
-/
import Derived.Test.YtbnbdijgdokhhaaDoorChecked
import GoSem.Claim
import GoSem.ClaimJoined
import GoSem.ClaimMapViews
import Derived.JoinedTies
import Derived.KernelRfl
namespace Go.Proofs.YtbnbdijgdokhhaaDoor
/- THE CELL 'sum', in the pinned program and in every row, IS THE sha256 OF THE DUMP (.gsa) THAT YtbnbdijgdokhhaaDoorProg.lean LOADS. Nothing in Lean hashes anything: it is a label: what it is worth is what the hold of that sum in a sandbox is worth. -/
noncomputable def Tryd.pinned : Pinned := { name := "ytbnbdijgdokhhaadoor", sum := "6a986d021809b4e888c820c21e92ca2e75f215c90f0a6f092707ae625470e108", checked := Tryd.checked }
namespace Rows
def none {H : Type} : Left H := { results := [], args := [] }

/- WHAT THE LISTED PACKAGE-LEVEL VARIABLES READ AS WHEN THE CALL BEGINS. Each datum BY PROGRAM (the guide's laid-datum.mjs) off the statement by which the dump's own 'gosem.cut.vars' lays the variable. In a bare row this is a premise. The card (YtbnbdijgdokhhaaDoorCards.lean) ties it to the program's text. -/
def laid_postmark_policy_levels {H : Type} : DataW H := .agg [.agg [.lit (.int .i64 0), .lit (.int .i64 0), .lit (.int .i64 0), .lit (.int .i64 0)], .agg [.lit (.int .i64 0), .lit (.int .i64 0), .lit (.int .i64 0), .lit (.int .i64 0)], .agg [.lit (.int .i64 2), .lit (.int .i64 2), .lit (.int .i64 0), .lit (.int .i64 0)], .agg [.lit (.int .i64 0), .lit (.int .i64 2), .lit (.int .i64 0), .lit (.int .i64 2)], .agg [.lit (.int .i64 1), .lit (.int .i64 1), .lit (.int .i64 1), .lit (.int .i64 1)], .agg [.lit (.int .i64 1), .lit (.int .i64 1), .lit (.int .i64 0), .lit (.int .i64 0)], .agg [.lit (.int .i64 1), .lit (.int .i64 2), .lit (.int .i64 1), .lit (.int .i64 2)], .agg [.lit (.int .i64 1), .lit (.int .i64 2), .lit (.int .i64 0), .lit (.int .i64 2)], .agg [.lit (.int .i64 2), .lit (.int .i64 2), .lit (.int .i64 2), .lit (.int .i64 2)]]

/-- 'postmarklaw15.PolicyTells': WHATEVER THE INPUT: true; the input reads as it did. -/
def policyTellsSpec : ChangeSpec := { name := "policyTells", fn := fun _ => fun
  | [d1, d2, d3, d4, d5, d6] => { results := [.lit (.bool true)], args := [d1, d2, d3, d4, d5, d6] }
  | _ => none }
def policyTellsRow : OpenClaim := { program := "ytbnbdijgdokhhaadoor", sum := "6a986d021809b4e888c820c21e92ca2e75f215c90f0a6f092707ae625470e108", func := "postmark/postmarklaw15.PolicyTells", spec := "policyTells", named := ["postmark/policy.levels"], apart := false, laid := [("postmark/policy.levels", laid_postmark_policy_levels)] }
def PolicyTellsSaid : Prop := policyTellsRow.holds Tryd.pinned (OpenSpec.ofChange policyTellsSpec)

/-- ITS FALSE NEIGHBOUR: 'it returns false'. Refute it at one input. -/
def policyTellsWrong : ChangeSpec := { name := "policyTells", fn := fun _ => fun
  | [d1, d2, d3, d4, d5, d6] => { results := [.lit (.bool false)], args := [d1, d2, d3, d4, d5, d6] }
  | _ => none }
def PolicyTellsWrongFalsely : Prop := policyTellsRow.holds Tryd.pinned (OpenSpec.ofChange policyTellsWrong)

/-- 'postmarklaw15.PolicyLess': WHATEVER THE INPUT: true; the input reads as it did. -/
def policyLessSpec : ChangeSpec := { name := "policyLess", fn := fun _ => fun
  | [d1, d2, d3] => { results := [.lit (.bool true)], args := [d1, d2, d3] }
  | _ => none }
def policyLessRow : OpenClaim := { program := "ytbnbdijgdokhhaadoor", sum := "6a986d021809b4e888c820c21e92ca2e75f215c90f0a6f092707ae625470e108", func := "postmark/postmarklaw15.PolicyLess", spec := "policyLess", named := ["postmark/policy.levels"], apart := false, laid := [("postmark/policy.levels", laid_postmark_policy_levels)] }
def PolicyLessSaid : Prop := policyLessRow.holds Tryd.pinned (OpenSpec.ofChange policyLessSpec)

/-- ITS FALSE NEIGHBOUR: 'it returns false'. Refute it at one input. -/
def policyLessWrong : ChangeSpec := { name := "policyLess", fn := fun _ => fun
  | [d1, d2, d3] => { results := [.lit (.bool false)], args := [d1, d2, d3] }
  | _ => none }
def PolicyLessWrongFalsely : Prop := policyLessRow.holds Tryd.pinned (OpenSpec.ofChange policyLessWrong)

/-- 'postmarklaw15.PolicyOrder': WHATEVER THE INPUT: true; the input reads as it did. -/
def policyOrderSpec : ChangeSpec := { name := "policyOrder", fn := fun _ => fun
  | [d1, d2, d3, d4, d5] => { results := [.lit (.bool true)], args := [d1, d2, d3, d4, d5] }
  | _ => none }
def policyOrderRow : OpenClaim := { program := "ytbnbdijgdokhhaadoor", sum := "6a986d021809b4e888c820c21e92ca2e75f215c90f0a6f092707ae625470e108", func := "postmark/postmarklaw15.PolicyOrder", spec := "policyOrder", named := ["postmark/policy.levels"], apart := false, laid := [("postmark/policy.levels", laid_postmark_policy_levels)] }
def PolicyOrderSaid : Prop := policyOrderRow.holds Tryd.pinned (OpenSpec.ofChange policyOrderSpec)

/-- ITS FALSE NEIGHBOUR: 'it returns false'. Refute it at one input. -/
def policyOrderWrong : ChangeSpec := { name := "policyOrder", fn := fun _ => fun
  | [d1, d2, d3, d4, d5] => { results := [.lit (.bool false)], args := [d1, d2, d3, d4, d5] }
  | _ => none }
def PolicyOrderWrongFalsely : Prop := policyOrderRow.holds Tryd.pinned (OpenSpec.ofChange policyOrderWrong)

/-- 'postmarklaw15.PolicyApart': WHATEVER THE INPUT: true; the input reads as it did. -/
def policyApartSpec : ChangeSpec := { name := "policyApart", fn := fun _ => fun
  | [d1, d2, d3, d4, d5] => { results := [.lit (.bool true)], args := [d1, d2, d3, d4, d5] }
  | _ => none }
def policyApartRow : OpenClaim := { program := "ytbnbdijgdokhhaadoor", sum := "6a986d021809b4e888c820c21e92ca2e75f215c90f0a6f092707ae625470e108", func := "postmark/postmarklaw15.PolicyApart", spec := "policyApart", named := ["postmark/policy.levels"], apart := false, laid := [("postmark/policy.levels", laid_postmark_policy_levels)] }
def PolicyApartSaid : Prop := policyApartRow.holds Tryd.pinned (OpenSpec.ofChange policyApartSpec)

/-- ITS FALSE NEIGHBOUR: 'it returns false'. Refute it at one input. -/
def policyApartWrong : ChangeSpec := { name := "policyApart", fn := fun _ => fun
  | [d1, d2, d3, d4, d5] => { results := [.lit (.bool false)], args := [d1, d2, d3, d4, d5] }
  | _ => none }
def PolicyApartWrongFalsely : Prop := policyApartRow.holds Tryd.pinned (OpenSpec.ofChange policyApartWrong)

/-- 'postmarklaw15.PolicyLevels': WHATEVER THE INPUT: true; the input reads as it did. -/
def policyLevelsSpec : ChangeSpec := { name := "policyLevels", fn := fun _ => fun
  | [d] => { results := [.lit (.bool true)], args := [d] }
  | _ => none }
def policyLevelsRow : OpenClaim := { program := "ytbnbdijgdokhhaadoor", sum := "6a986d021809b4e888c820c21e92ca2e75f215c90f0a6f092707ae625470e108", func := "postmark/postmarklaw15.PolicyLevels", spec := "policyLevels", named := ["postmark/policy.levels"], apart := false, laid := [("postmark/policy.levels", laid_postmark_policy_levels)] }
def PolicyLevelsSaid : Prop := policyLevelsRow.holds Tryd.pinned (OpenSpec.ofChange policyLevelsSpec)

/-- ITS FALSE NEIGHBOUR: 'it returns false'. Refute it at one input. -/
def policyLevelsWrong : ChangeSpec := { name := "policyLevels", fn := fun _ => fun
  | [d] => { results := [.lit (.bool false)], args := [d] }
  | _ => none }
def PolicyLevelsWrongFalsely : Prop := policyLevelsRow.holds Tryd.pinned (OpenSpec.ofChange policyLevelsWrong)

/-- 'postmarklaw15.PolicyOther': WHATEVER THE INPUT: true; the input reads as it did. -/
def policyOtherSpec : ChangeSpec := { name := "policyOther", fn := fun _ => fun
  | [d1, d2, d3] => { results := [.lit (.bool true)], args := [d1, d2, d3] }
  | _ => none }
def policyOtherRow : OpenClaim := { program := "ytbnbdijgdokhhaadoor", sum := "6a986d021809b4e888c820c21e92ca2e75f215c90f0a6f092707ae625470e108", func := "postmark/postmarklaw15.PolicyOther", spec := "policyOther", named := ["postmark/policy.levels"], apart := false, laid := [("postmark/policy.levels", laid_postmark_policy_levels)] }
def PolicyOtherSaid : Prop := policyOtherRow.holds Tryd.pinned (OpenSpec.ofChange policyOtherSpec)

/-- ITS FALSE NEIGHBOUR: 'it returns false'. Refute it at one input. -/
def policyOtherWrong : ChangeSpec := { name := "policyOther", fn := fun _ => fun
  | [d1, d2, d3] => { results := [.lit (.bool false)], args := [d1, d2, d3] }
  | _ => none }
def PolicyOtherWrongFalsely : Prop := policyOtherRow.holds Tryd.pinned (OpenSpec.ofChange policyOtherWrong)

/- THE SECOND FORM. 'bulk': how many values and letters a reading holds, each counted each time it is reached (what is shared counts as often as it is met; a slice's spare places count too). A statement '..UptoSaid' is the law's where the arguments, and the package variables that the reading takes, are together of bulk at most 1048576: NARROWER than '..Said'. Prove '..Said' where nothing that the law and all that it calls make is longer than what came in: it says more and counts as full. Else prove '..UptoSaid'. A law counts once. -/
mutual
def uptoBulk {H : Type} : DataW H → Nat
  | .lit (.string bytes) => bytes.length + 1
  | .lit _ => 1
  | .nil => 1
  | .ptr d => uptoBulk d + 1
  | .slice elems spare => uptoBulkAll elems + uptoBulkAll spare + 1
  | .agg parts => uptoBulkAll parts + 1
  | .iface _ d => uptoBulk d + 1
  | .map entries => uptoBulkEntries entries + 1
  | .held _ => 1
def uptoBulkAll {H : Type} : List (DataW H) → Nat
  | [] => 0
  | d :: r => uptoBulk d + uptoBulkAll r
def uptoBulkEntries {H : Type} : List (Lit × DataW H) → Nat
  | [] => 0
  | x :: r => uptoBulkEntry x + uptoBulkEntries r
def uptoBulkEntry {H : Type} : Lit × DataW H → Nat
  | (.string bytes, d) => bytes.length + uptoBulk d + 1
  | (_, d) => uptoBulk d + 1
 end
def uptoSmall : (H : Type) → List (DataW H) → Bool := fun _ ds => decide (uptoBulkAll ds ≤ 1048576)
def OpenSpec.upto (s : _root_.Go.ChangeSpec) : _root_.Go.OpenSpec := { _root_.Go.OpenSpec.ofChange s with cond := some uptoSmall }

/-- 'postmarklaw15.PolicyTells', WHERE WHAT IT READS IS OF BULK AT MOST 1048576: true; the input reads as it did. -/
def policyTellsUptoRow : OpenClaim := { program := "ytbnbdijgdokhhaadoor", sum := "6a986d021809b4e888c820c21e92ca2e75f215c90f0a6f092707ae625470e108", func := "postmark/postmarklaw15.PolicyTells", spec := "policyTells", named := ["postmark/policy.levels"], apart := false, laid := [("postmark/policy.levels", laid_postmark_policy_levels)], narrowed := true }
def PolicyTellsUptoSaid : Prop := policyTellsUptoRow.holds Tryd.pinned (OpenSpec.upto policyTellsSpec)

/-- 'postmarklaw15.PolicyLess', WHERE WHAT IT READS IS OF BULK AT MOST 1048576: true; the input reads as it did. -/
def policyLessUptoRow : OpenClaim := { program := "ytbnbdijgdokhhaadoor", sum := "6a986d021809b4e888c820c21e92ca2e75f215c90f0a6f092707ae625470e108", func := "postmark/postmarklaw15.PolicyLess", spec := "policyLess", named := ["postmark/policy.levels"], apart := false, laid := [("postmark/policy.levels", laid_postmark_policy_levels)], narrowed := true }
def PolicyLessUptoSaid : Prop := policyLessUptoRow.holds Tryd.pinned (OpenSpec.upto policyLessSpec)

/-- 'postmarklaw15.PolicyOrder', WHERE WHAT IT READS IS OF BULK AT MOST 1048576: true; the input reads as it did. -/
def policyOrderUptoRow : OpenClaim := { program := "ytbnbdijgdokhhaadoor", sum := "6a986d021809b4e888c820c21e92ca2e75f215c90f0a6f092707ae625470e108", func := "postmark/postmarklaw15.PolicyOrder", spec := "policyOrder", named := ["postmark/policy.levels"], apart := false, laid := [("postmark/policy.levels", laid_postmark_policy_levels)], narrowed := true }
def PolicyOrderUptoSaid : Prop := policyOrderUptoRow.holds Tryd.pinned (OpenSpec.upto policyOrderSpec)

/-- 'postmarklaw15.PolicyApart', WHERE WHAT IT READS IS OF BULK AT MOST 1048576: true; the input reads as it did. -/
def policyApartUptoRow : OpenClaim := { program := "ytbnbdijgdokhhaadoor", sum := "6a986d021809b4e888c820c21e92ca2e75f215c90f0a6f092707ae625470e108", func := "postmark/postmarklaw15.PolicyApart", spec := "policyApart", named := ["postmark/policy.levels"], apart := false, laid := [("postmark/policy.levels", laid_postmark_policy_levels)], narrowed := true }
def PolicyApartUptoSaid : Prop := policyApartUptoRow.holds Tryd.pinned (OpenSpec.upto policyApartSpec)

/-- 'postmarklaw15.PolicyLevels', WHERE WHAT IT READS IS OF BULK AT MOST 1048576: true; the input reads as it did. -/
def policyLevelsUptoRow : OpenClaim := { program := "ytbnbdijgdokhhaadoor", sum := "6a986d021809b4e888c820c21e92ca2e75f215c90f0a6f092707ae625470e108", func := "postmark/postmarklaw15.PolicyLevels", spec := "policyLevels", named := ["postmark/policy.levels"], apart := false, laid := [("postmark/policy.levels", laid_postmark_policy_levels)], narrowed := true }
def PolicyLevelsUptoSaid : Prop := policyLevelsUptoRow.holds Tryd.pinned (OpenSpec.upto policyLevelsSpec)

/-- 'postmarklaw15.PolicyOther', WHERE WHAT IT READS IS OF BULK AT MOST 1048576: true; the input reads as it did. -/
def policyOtherUptoRow : OpenClaim := { program := "ytbnbdijgdokhhaadoor", sum := "6a986d021809b4e888c820c21e92ca2e75f215c90f0a6f092707ae625470e108", func := "postmark/postmarklaw15.PolicyOther", spec := "policyOther", named := ["postmark/policy.levels"], apart := false, laid := [("postmark/policy.levels", laid_postmark_policy_levels)], narrowed := true }
def PolicyOtherUptoSaid : Prop := policyOtherUptoRow.holds Tryd.pinned (OpenSpec.upto policyOtherSpec)

end Rows
end Go.Proofs.YtbnbdijgdokhhaaDoor
