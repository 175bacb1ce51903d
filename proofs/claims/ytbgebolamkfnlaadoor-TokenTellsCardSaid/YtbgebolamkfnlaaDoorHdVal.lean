/-
  Value(s), field(line).
-/
import Derived.Laws.ResultCell
import Derived.Test.YtbgebolamkfnlaaDoorHdSame
namespace Go.Proofs.YtbgebolamkfnlaaDoor.Head
set_option linter.unusedSimpArgs false
set_option linter.unusedVariables false
set_option maxRecDepth 100000


open Go.RowKit Go.Shelf

open Url

/-- What a line tells, as an answer. -/
def fieldV : Option F → Value
  | some f => .tuple #[.agg #[.string (tb f.1), .string (tb f.2)], .bool true]
  | none => .tuple #[.agg #[.string ⟨#[]⟩, .string ⟨#[]⟩], .bool false]

theorem ret_field2 {fn : Func} {d u : Tmp} (h : fn.results = #[.cell d 36, .tmp u]) {tmps : Array Value} {W : World} {g : Nat} {a b : ByteArray} (hp : tmps.getD d undef = .pointer (some ⟨g, 0, none⟩)) (hg : FAt W g a b) :
    (results fn tmps).run Tryd.prog W = .ok (.tuple #[.agg #[.string a, .string b], tmps.getD u undef]) W := by
  rw [results_cell_tmp h tmps, hp]
  simp [asAddr, Result.andThen, hg.load]

theorem field_no {s : T} (h : s.contains 58 = false ∨ nameB (bef 58 s) = false ∨ valB (trimB (aft 58 s)) = false) : fieldO s = none := by
  unfold fieldO
  rcases h with h | h | h <;> rw [h] <;> simp

theorem field_yes {s : T} (h1 : s.contains 58 = true) (h2 : nameB (bef 58 s) = true) (h3 : valB (trimB (aft 58 s)) = true) : fieldO s = some (bef 58 s, trimB (aft 58 s)) := by
  unfold fieldO
  rw [h1, h2, h3]; rfl

end Go.Proofs.YtbgebolamkfnlaaDoor.Head
