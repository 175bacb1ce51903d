/-
  Out of the row's own condition: the table of names holds the names.
-/
import Derived.Test.YtbgebolamkfnlaaDoorTkTold
import Derived.Test.YtbgebolamkfnlaaDoorLaid
namespace Go.Proofs.YtbgebolamkfnlaaDoor.Token
set_option linter.unusedSimpArgs false
set_option linter.unusedVariables false
set_option maxRecDepth 100000


open Go.RowKit Go.Shelf

open Url

open Path (MaxAt)

open Head (tb)


theorem ns_at : ∀ k : Fin 9, Card.ns[k.1]? = some (nameT k.1) := by decide +kernel

theorem tok_of {m : Int} {W : World} (hm : MaxAt m W) (hL : laidMet Tryd.prog Rows.tokenTellsRow.laid W) : TokAt m W :=
  ⟨hm, fun k hk => Card.names_of hL k (nameT k) (ns_at ⟨k, hk⟩)⟩

end Go.Proofs.YtbgebolamkfnlaaDoor.Token
