/-
  The document's Same of layer 9.
-/
import Derived.Test.YtlkikfdbjpjpaaaGreatDoorUrl
namespace Go.Proofs.YtlkikfdbjpjpaaaGreatDoor.Url
set_option linter.unusedSimpArgs false
set_option linter.unusedVariables false
set_option maxRecDepth 100000


open Go.RowKit Go.Shelf

end Go.Proofs.YtlkikfdbjpjpaaaGreatDoor.Url
