/-
  No cell of these rows narrows 'for every input' (looked for: loops, veiled, ifaces, maps, wideKeys, modest, calm, conditions, laid).
  DERIVED. THE GIVEN ROWS OF THIS SEAT. 6 by the template 'for every input the law returns true; each argument reads behind the call as it read before'; 0 by the template 'total and deterministic' (their statements: YtdmjolmclnnngaaTotals.lean).
  GIVEN WITH THE SEED: the statements are not yours to turn. If you find one false, say at which input.
  Laid BY PROGRAM, IN A SANDBOX (cutbox-rows.mjs): the forced cells as the released guide's own fill.sh prints them over the translation 5e37983c5d3295d0… (all of the seat's roots in one cut). By AI agents, Wed Nov 11 2026. No macro, syntax, notation, axiom, sorry.
-/
import Derived.Test.YtdmjolmclnnngaaChecked
import GoSem.Claim
import GoSem.ClaimJoined
import GoSem.ClaimMapViews
import Derived.JoinedTies
import Derived.KernelRfl
namespace Go.Proofs.Ytdmjolmclnnngaa
/- THE CELL 'sum', in the pinned program and in every row, IS THE sha256 OF THE DUMP (.gsa) THAT YtdmjolmclnnngaaProg.lean LOADS. Nothing in Lean hashes anything: it is a label: what it is worth is what the hold of that sum in a sandbox is worth. -/
noncomputable def Try.pinned : Pinned := { name := "ytdmjolmclnnngaa", sum := "5e37983c5d3295d09d79849d48fbb5dd0ba814e98df3bb4750735383e6695e57", checked := Try.checked }
namespace Rows
def none {H : Type} : Left H := { results := [], args := [] }

/-- 'postmarklaw02.DeciTells': WHATEVER THE INPUT: true; the input reads as it did. -/
def deciTellsSpec : ChangeSpec := { name := "deciTells", fn := fun _ => fun
  | [d1, d2, d3] => { results := [.lit (.bool true)], args := [d1, d2, d3] }
  | _ => none }
def deciTellsRow : OpenClaim := { program := "ytdmjolmclnnngaa", sum := "5e37983c5d3295d09d79849d48fbb5dd0ba814e98df3bb4750735383e6695e57", func := "postmark/postmarklaw02.DeciTells", spec := "deciTells", unfollowed := true, recurses := true, apart := false }
def DeciTellsSaid : Prop := deciTellsRow.holds Try.pinned (OpenSpec.ofChange deciTellsSpec)

/-- ITS FALSE NEIGHBOUR: 'it returns false'. Refute it at one input. -/
def deciTellsWrong : ChangeSpec := { name := "deciTells", fn := fun _ => fun
  | [d1, d2, d3] => { results := [.lit (.bool false)], args := [d1, d2, d3] }
  | _ => none }
def DeciTellsWrongFalsely : Prop := deciTellsRow.holds Try.pinned (OpenSpec.ofChange deciTellsWrong)

/-- 'postmarklaw02.DeciBack': WHATEVER THE INPUT: true; the input reads as it did. -/
def deciBackSpec : ChangeSpec := { name := "deciBack", fn := fun _ => fun
  | [d1, d2, d3] => { results := [.lit (.bool true)], args := [d1, d2, d3] }
  | _ => none }
def deciBackRow : OpenClaim := { program := "ytdmjolmclnnngaa", sum := "5e37983c5d3295d09d79849d48fbb5dd0ba814e98df3bb4750735383e6695e57", func := "postmark/postmarklaw02.DeciBack", spec := "deciBack", unfollowed := true, recurses := true, apart := false }
def DeciBackSaid : Prop := deciBackRow.holds Try.pinned (OpenSpec.ofChange deciBackSpec)

/-- ITS FALSE NEIGHBOUR: 'it returns false'. Refute it at one input. -/
def deciBackWrong : ChangeSpec := { name := "deciBack", fn := fun _ => fun
  | [d1, d2, d3] => { results := [.lit (.bool false)], args := [d1, d2, d3] }
  | _ => none }
def DeciBackWrongFalsely : Prop := deciBackRow.holds Try.pinned (OpenSpec.ofChange deciBackWrong)

/-- 'postmarklaw02.DeciApart': WHATEVER THE INPUT: true; the input reads as it did. -/
def deciApartSpec : ChangeSpec := { name := "deciApart", fn := fun _ => fun
  | [d1, d2] => { results := [.lit (.bool true)], args := [d1, d2] }
  | _ => none }
def deciApartRow : OpenClaim := { program := "ytdmjolmclnnngaa", sum := "5e37983c5d3295d09d79849d48fbb5dd0ba814e98df3bb4750735383e6695e57", func := "postmark/postmarklaw02.DeciApart", spec := "deciApart", unfollowed := true, recurses := true, apart := false }
def DeciApartSaid : Prop := deciApartRow.holds Try.pinned (OpenSpec.ofChange deciApartSpec)

/-- ITS FALSE NEIGHBOUR: 'it returns false'. Refute it at one input. -/
def deciApartWrong : ChangeSpec := { name := "deciApart", fn := fun _ => fun
  | [d1, d2] => { results := [.lit (.bool false)], args := [d1, d2] }
  | _ => none }
def DeciApartWrongFalsely : Prop := deciApartRow.holds Try.pinned (OpenSpec.ofChange deciApartWrong)

/-- 'postmarklaw02.DeciRead': WHATEVER THE INPUT: true; the input reads as it did. -/
def deciReadSpec : ChangeSpec := { name := "deciRead", fn := fun _ => fun
  | [d1, d2] => { results := [.lit (.bool true)], args := [d1, d2] }
  | _ => none }
def deciReadRow : OpenClaim := { program := "ytdmjolmclnnngaa", sum := "5e37983c5d3295d09d79849d48fbb5dd0ba814e98df3bb4750735383e6695e57", func := "postmark/postmarklaw02.DeciRead", spec := "deciRead", unfollowed := true, recurses := true, apart := false }
def DeciReadSaid : Prop := deciReadRow.holds Try.pinned (OpenSpec.ofChange deciReadSpec)

/-- ITS FALSE NEIGHBOUR: 'it returns false'. Refute it at one input. -/
def deciReadWrong : ChangeSpec := { name := "deciRead", fn := fun _ => fun
  | [d1, d2] => { results := [.lit (.bool false)], args := [d1, d2] }
  | _ => none }
def DeciReadWrongFalsely : Prop := deciReadRow.holds Try.pinned (OpenSpec.ofChange deciReadWrong)

/-- 'postmarklaw02.DeciMost': WHATEVER THE INPUT: true; the input reads as it did. -/
def deciMostSpec : ChangeSpec := { name := "deciMost", fn := fun _ => fun
  | [d1, d2, d3] => { results := [.lit (.bool true)], args := [d1, d2, d3] }
  | _ => none }
def deciMostRow : OpenClaim := { program := "ytdmjolmclnnngaa", sum := "5e37983c5d3295d09d79849d48fbb5dd0ba814e98df3bb4750735383e6695e57", func := "postmark/postmarklaw02.DeciMost", spec := "deciMost", unfollowed := true, recurses := true, apart := false }
def DeciMostSaid : Prop := deciMostRow.holds Try.pinned (OpenSpec.ofChange deciMostSpec)

/-- ITS FALSE NEIGHBOUR: 'it returns false'. Refute it at one input. -/
def deciMostWrong : ChangeSpec := { name := "deciMost", fn := fun _ => fun
  | [d1, d2, d3] => { results := [.lit (.bool false)], args := [d1, d2, d3] }
  | _ => none }
def DeciMostWrongFalsely : Prop := deciMostRow.holds Try.pinned (OpenSpec.ofChange deciMostWrong)

/-- 'postmarklaw02.DeciShow': WHATEVER THE INPUT: true; the input reads as it did. -/
def deciShowSpec : ChangeSpec := { name := "deciShow", fn := fun _ => fun
  | [d1, d2] => { results := [.lit (.bool true)], args := [d1, d2] }
  | _ => none }
def deciShowRow : OpenClaim := { program := "ytdmjolmclnnngaa", sum := "5e37983c5d3295d09d79849d48fbb5dd0ba814e98df3bb4750735383e6695e57", func := "postmark/postmarklaw02.DeciShow", spec := "deciShow", unfollowed := true, recurses := true, apart := false }
def DeciShowSaid : Prop := deciShowRow.holds Try.pinned (OpenSpec.ofChange deciShowSpec)

/-- ITS FALSE NEIGHBOUR: 'it returns false'. Refute it at one input. -/
def deciShowWrong : ChangeSpec := { name := "deciShow", fn := fun _ => fun
  | [d1, d2] => { results := [.lit (.bool false)], args := [d1, d2] }
  | _ => none }
def DeciShowWrongFalsely : Prop := deciShowRow.holds Try.pinned (OpenSpec.ofChange deciShowWrong)

/- THE SECOND FORM. 'bulk': how many values and letters a reading holds, each counted each time it is reached (what is shared counts as often as it is met; a slice's spare places count too). A statement '..UptoSaid' is the law's where the arguments, and the package variables that the reading takes, are together of bulk at most 1048576: NARROWER than '..Said'. Prove '..Said' where nothing that the law and all that it calls make is longer than what came in: it says more and counts as full. Else prove '..UptoSaid'. A law counts once. -/
mutual
def uptoBulk {H : Type} : DataW H → Nat
  | .lit (.string bytes) => bytes.length + 1
  | .lit _ => 1
  | .nil => 1
  | .ptr d => uptoBulk d + 1
  | .slice elems spare => uptoBulkAll elems + uptoBulkAll spare + 1
  | .agg parts => uptoBulkAll parts + 1
  | .iface _ d => uptoBulk d + 1
  | .map entries => uptoBulkEntries entries + 1
  | .held _ => 1
def uptoBulkAll {H : Type} : List (DataW H) → Nat
  | [] => 0
  | d :: r => uptoBulk d + uptoBulkAll r
def uptoBulkEntries {H : Type} : List (Lit × DataW H) → Nat
  | [] => 0
  | x :: r => uptoBulkEntry x + uptoBulkEntries r
def uptoBulkEntry {H : Type} : Lit × DataW H → Nat
  | (.string bytes, d) => bytes.length + uptoBulk d + 1
  | (_, d) => uptoBulk d + 1
 end
def uptoSmall : (H : Type) → List (DataW H) → Bool := fun _ ds => decide (uptoBulkAll ds ≤ 1048576)
def OpenSpec.upto (s : _root_.Go.ChangeSpec) : _root_.Go.OpenSpec := { _root_.Go.OpenSpec.ofChange s with cond := some uptoSmall }

/-- 'postmarklaw02.DeciTells', WHERE WHAT IT READS IS OF BULK AT MOST 1048576: true; the input reads as it did. -/
def deciTellsUptoRow : OpenClaim := { program := "ytdmjolmclnnngaa", sum := "5e37983c5d3295d09d79849d48fbb5dd0ba814e98df3bb4750735383e6695e57", func := "postmark/postmarklaw02.DeciTells", spec := "deciTells", unfollowed := true, recurses := true, apart := false, narrowed := true }
def DeciTellsUptoSaid : Prop := deciTellsUptoRow.holds Try.pinned (OpenSpec.upto deciTellsSpec)

/-- 'postmarklaw02.DeciBack', WHERE WHAT IT READS IS OF BULK AT MOST 1048576: true; the input reads as it did. -/
def deciBackUptoRow : OpenClaim := { program := "ytdmjolmclnnngaa", sum := "5e37983c5d3295d09d79849d48fbb5dd0ba814e98df3bb4750735383e6695e57", func := "postmark/postmarklaw02.DeciBack", spec := "deciBack", unfollowed := true, recurses := true, apart := false, narrowed := true }
def DeciBackUptoSaid : Prop := deciBackUptoRow.holds Try.pinned (OpenSpec.upto deciBackSpec)

/-- 'postmarklaw02.DeciApart', WHERE WHAT IT READS IS OF BULK AT MOST 1048576: true; the input reads as it did. -/
def deciApartUptoRow : OpenClaim := { program := "ytdmjolmclnnngaa", sum := "5e37983c5d3295d09d79849d48fbb5dd0ba814e98df3bb4750735383e6695e57", func := "postmark/postmarklaw02.DeciApart", spec := "deciApart", unfollowed := true, recurses := true, apart := false, narrowed := true }
def DeciApartUptoSaid : Prop := deciApartUptoRow.holds Try.pinned (OpenSpec.upto deciApartSpec)

/-- 'postmarklaw02.DeciRead', WHERE WHAT IT READS IS OF BULK AT MOST 1048576: true; the input reads as it did. -/
def deciReadUptoRow : OpenClaim := { program := "ytdmjolmclnnngaa", sum := "5e37983c5d3295d09d79849d48fbb5dd0ba814e98df3bb4750735383e6695e57", func := "postmark/postmarklaw02.DeciRead", spec := "deciRead", unfollowed := true, recurses := true, apart := false, narrowed := true }
def DeciReadUptoSaid : Prop := deciReadUptoRow.holds Try.pinned (OpenSpec.upto deciReadSpec)

/-- 'postmarklaw02.DeciMost', WHERE WHAT IT READS IS OF BULK AT MOST 1048576: true; the input reads as it did. -/
def deciMostUptoRow : OpenClaim := { program := "ytdmjolmclnnngaa", sum := "5e37983c5d3295d09d79849d48fbb5dd0ba814e98df3bb4750735383e6695e57", func := "postmark/postmarklaw02.DeciMost", spec := "deciMost", unfollowed := true, recurses := true, apart := false, narrowed := true }
def DeciMostUptoSaid : Prop := deciMostUptoRow.holds Try.pinned (OpenSpec.upto deciMostSpec)

/-- 'postmarklaw02.DeciShow', WHERE WHAT IT READS IS OF BULK AT MOST 1048576: true; the input reads as it did. -/
def deciShowUptoRow : OpenClaim := { program := "ytdmjolmclnnngaa", sum := "5e37983c5d3295d09d79849d48fbb5dd0ba814e98df3bb4750735383e6695e57", func := "postmark/postmarklaw02.DeciShow", spec := "deciShow", unfollowed := true, recurses := true, apart := false, narrowed := true }
def DeciShowUptoSaid : Prop := deciShowUptoRow.holds Try.pinned (OpenSpec.upto deciShowSpec)

end Rows
end Go.Proofs.Ytdmjolmclnnngaa
