/-
  The chapter's example.
-/
import Derived.Test.YtbgebolamkfnlaaDoorHdParse
namespace Go.Proofs.YtbgebolamkfnlaaDoor.Head
set_option linter.unusedSimpArgs false
set_option linter.unusedVariables false
set_option maxRecDepth 100000


open Go.RowKit Go.Shelf

open Url

open Path (Strs tx infoText MaxAt)


def exF : List F := [([97], [49]), ([65], [50])]

def exR : T := [97, 58, 32, 49, 13, 10, 65, 58, 50, 9, 13, 10]

theorem ex_parse : parseL exR = some exF := by
  rw [show exR = [97, 58, 32, 49] ++ 13 :: 10 :: ([65, 58, 50, 9] ++ 13 :: 10 :: []) from rfl, parse_end (fst_no (by decide)), parse_end (fst_no (by decide)), parse_nil]
  decide +kernel

theorem ex_get : getT exF [97] = [49, 44, 32, 50] := by decide +kernel

theorem ex_has : getB exF [97] = true := by decide +kernel

theorem ex_all : allL exF [65] = [[49], [50]] := by decide +kernel

theorem ex_set : setL exF [97] [51] = [([97], [51])] := by decide +kernel

theorem ex_drop : dropL exF [[98], [65]] = [] := by decide +kernel

theorem ex_n1 : nameB [120, 45, 121] = true := by decide +kernel

theorem ex_n2 : nameB [] = false := by decide +kernel

theorem ex_v1 : valB [97, 32, 98] = true := by decide +kernel

theorem ex_v2 : valB [32, 97] = false := by decide +kernel

theorem ex_few : ∀ f ∈ exF, f.1.length ≤ 1000000 ∧ f.2.length ≤ 1000000 := by decide

theorem strs_two (w : World) (a b : ByteArray) : Strs (w.alloc (.cells #[.string a, .string b] 9)) (.slice (some ⟨w.heap.size, 0, none⟩) 2 2) [a.data.toList, b.data.toList] := by
  refine ⟨_, 2, rfl, by simp, by unfold maxLen; omega, (fun e => by cases e), fun _ => ⟨w.heap.size, 0, rfl, fun j hj => ?_⟩⟩
  have h : (w.alloc (.cells #[.string a, .string b] 9)).heap[w.heap.size]? = some (.cells #[.string a, .string b] 9 (0, 0)) := heap_alloc_new w _
  rw [cell_of_row _ _ _ _ _ _ h]
  match j, hj with
  | 0, _ => simp
  | 1, _ => simp

end Go.Proofs.YtbgebolamkfnlaaDoor.Head
