/-
  Two lists of fields compared: the document's Same, slices.Equal, Same.
-/
import Derived.Deep.QuietTactic
import Derived.BigQuiet
import Derived.Test.YtbgebolamkfnlaaDoorHdObj
namespace Go.Proofs.YtbgebolamkfnlaaDoor.Head
set_option linter.unusedSimpArgs false
set_option linter.unusedVariables false
set_option maxRecDepth 100000


open Go.RowKit Go.Shelf

open Url


theorem same_next (l m : List F) (k : Nat) (h1 : k < l.length) (h2 : k < m.length) (h : l.take k = m.take k) (he : l[k] = m[k]) : l.take (k + 1) = m.take (k + 1) := by
  rw [List.take_succ_eq_append_getElem h1, List.take_succ_eq_append_getElem h2, h, he]

theorem same_not (l m : List F) (k : Nat) (h1 : k < l.length) (h2 : k < m.length) (he : l[k] ≠ m[k]) : decide (l = m) = false := by
  rw [decide_eq_false_iff_not]
  rintro rfl
  exact he rfl

theorem same_all (l m : List F) (k : Nat) (hl : l.length = m.length) (hk : ¬ k < l.length) (h : l.take k = m.take k) : decide (l = m) = true := by
  rw [decide_eq_true_iff]
  rwa [List.take_of_length_le (by omega), List.take_of_length_le (by omega)] at h

theorem same_len (l m : List F) (hl : l.length ≠ m.length) : decide (l = m) = false := by
  rw [decide_eq_false_iff_not]
  rintro rfl
  exact hl rfl

theorem tb_eq (x y : T) : ((tb x).toList == (tb y).toList) = (x == y) := by rw [tb_toList, tb_toList]

end Go.Proofs.YtbgebolamkfnlaaDoor.Head
