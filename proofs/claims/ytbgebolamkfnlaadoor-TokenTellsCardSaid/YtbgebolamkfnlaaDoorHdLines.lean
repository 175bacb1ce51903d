/-
  The iterator lines(raw): what stands ahead of the end of each line, and whether that end is there.
-/
import Derived.RangeFuncNested
import Derived.RangeFuncBound
import Derived.RangeFuncCalls
import Derived.RangeFuncLeaves
import Derived.RangeFuncBox
import Derived.OwnWalkIn
import Derived.TacticsInMore
import Derived.LoopNIn
import Derived.LoopIn
import Derived.Maps.AppendAt
import Derived.Test.YtbgebolamkfnlaaDoorHdGet
namespace Go.Proofs.YtbgebolamkfnlaaDoor.Head
set_option linter.unusedSimpArgs false
set_option linter.unusedVariables false
set_option maxRecDepth 100000


open Go.RowKit Go.Shelf

open Url

open Path (Strs tx infoText MaxAt)

attribute [local go_sem] Oper.semAt_some

/-- MaxLen is as it was. -/
def KeepsM (m : Int) (W W' : World) : Prop := MaxAt m W → MaxAt m W'

theorem keepsM_t {m : Int} {A B C : World} (h : KeepsM m A B) (k : KeepsM m B C) : KeepsM m A C := fun x => k (h x)

theorem keepsM_b {m : Int} {w : World} (W : World) (l : Nat) (o o' : Obj) (_ : w.heap.size ≤ l) (h : W.heap[l]? = some o) (hc : o.isCells = false) (_ : o.isWalk = false) : KeepsM m W (W.putObj l o') :=
  fun x => cell_kept x (grownBy_putObj' W l o') (fun r e => by cases e; exact ⟨o, h, hc⟩)

def leftL : Value → Nat
  | .string b => b.size
  | _ => 0

theorem empty_tb (R : T) : (tb R).toList.isEmpty = R.isEmpty := by rw [tb_toList]

/-- A line of a size that can be borne, and whether it has its end. -/
abbrev Line := { x : T × Bool // x.1.length ≤ 1000000 }

def lvals (ps : List Line) : List (T × Bool) := ps.map (·.1)

theorem lvals_snoc (ps : List Line) (x : Line) : lvals (ps ++ [x]) = lvals ps ++ [x.1] := by simp [lvals]

theorem grown_drewN (W : World) (q : Nat) : W.grownBy (W.drewN q) none := ⟨rfl, rfl, rfl, Nat.le_refl _, fun _ _ _ => rfl⟩

end Go.Proofs.YtbgebolamkfnlaaDoor.Head
