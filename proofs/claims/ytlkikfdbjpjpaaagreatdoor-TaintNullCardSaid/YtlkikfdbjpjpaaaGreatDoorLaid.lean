/-
  A world in which the five listed tables lie as their texts lay them (the witness of each card); internal/bytealg.MaxLen holds an int, and math/bits.deBruijn64tab 4 at place 15, in each world that the form speaks of.
-/
import Derived.Test.YtlkikfdbjpjpaaaGreatDoorRows
import Derived.WalkKit
import Derived.ProofKit
import Derived.OpenShut
import Derived.ShutString
import Derived.Deep.DeepHandedRow
import Derived.Lib.LaidTab
import Derived.Shelf.Vars
import Derived.HandedShaped
namespace Go.Proofs.YtlkikfdbjpjpaaaGreatDoor.Card
open Go.ChangeShapes Go.WideShapes Go.ChangeAt Go.RowKit

/-- The cells of a table that its text lays as plain integers. -/
def flat {H : Type} (k : IntKind) : DataW H → Array Value
  | .agg ps => (ps.map fun | .lit (.int _ z) => Value.int k z | _ => Value.int k 0).toArray
  | _ => #[]
noncomputable def laidWorld (os : Os) : World :=
  let w0 := World.holding Tryz.prog os ⟨#[], #[], []⟩
  let put (h : Array Obj) (g : Nat) (cs : Array Value) : Array Obj := h.modify g fun
    | .cells _ t frozen => .cells cs t frozen
    | o => o
  let h1 := put w0.heap 1 (Go.Pinned.utf8FirstZ.map fun z : Nat => Value.int .u8 (z : Int)).toArray
  let h2 := put h1 2 (([128, 191, 160, 191, 128, 159, 144, 191, 128, 143] : List Int).map (fun z => Value.int .u8 z) ++ List.replicate 22 (Value.int .u8 0)).toArray
  let h3 := put h2 3 (flat (H := Unit) .u64 Rows.laid_internal_strconv_uint64pow10)
  let h4 := put h3 4 (flat (H := Unit) .u8 Rows.laid_math_bits_deBruijn32tab)
  let h5 := put h4 5 (flat (H := Unit) .u8 Rows.laid_math_bits_deBruijn64tab)
  { w0 with heap := h5 }
theorem laid_met (os : Os) (args : Array Value) : laidMet Tryz.prog Rows.taintTellsRow.laid ((laidWorld os).forCall (fun _ _ => 0) ⟨#[], args, []⟩).memory :=
  laidMet_of_run' 8 (by kernel_rfl) (by kernel_rfl)

theorem maxLen_int {W : World} (h : W.ShapedOpen Tryz.prog) : ∃ m, W.cell? ⟨0, 0, none⟩ = some (.int .i64 m) := by
  obtain ⟨m, h⟩ := cell_of_shapedOpen_int (P := Tryz.prog) (g := 0) (t := 3) (zero := #[.int .i64 0]) h (of_decide_eq_true (by kernel_rfl)) (by kernel_rfl) rfl (by kernel_rfl) (by kernel_rfl) Tryz.underlying3
  exact ⟨m, h⟩
end Go.Proofs.YtlkikfdbjpjpaaaGreatDoor.Card
