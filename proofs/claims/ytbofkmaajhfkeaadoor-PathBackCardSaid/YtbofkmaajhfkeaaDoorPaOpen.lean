/-
  A slice of texts among the arguments, opened.
-/
import Derived.Test.YtbofkmaajhfkeaaDoorLaid
import Derived.Test.YtbofkmaajhfkeaaDoorPaAwake
import Derived.SliceStrings
namespace Go.Proofs.YtbofkmaajhfkeaaDoor.Path
open Go.RowKit Go.Shelf Go.ChangeShapes Go.WideShapes
set_option linter.unusedSimpArgs false
set_option linter.unusedVariables false

theorem open_texts {H : Type} {enc : TypeId × Value → H} {W : World} {base : Nat} {spare : Nat → Bool} {held : Bool} {a : Option Addr} {len cap : Nat} {x : DataW H × List MemPlace}
    (h : ∃ fuel, DataW.trod enc Tryd.prog W base spare held fuel 22 (Value.cells (.slice a len cap)).toList = some x) : ∃ l, Strs W (.slice a len cap) l := by
  obtain ⟨fuel, hf⟩ := h
  rcases open_strings Tryd.underlying22 Tryd.underlying9 (by kernel_rfl) hf with ⟨hcs, _⟩ | ⟨x, l, c, zs, hcs, _, hl, hm, hz, _, hcell, hwz⟩
  · simp [Value.cells] at hcs
    obtain ⟨rfl, rfl, rfl⟩ := hcs
    exact ⟨[], Strs.nil W⟩
  · simp [Value.cells] at hcs
    obtain ⟨rfl, rfl, rfl⟩ := hcs
    have hzl : len ≤ zs.length := by rw [hz]; split <;> omega
    have hll : ((zs.take len).map (·.data.toList)).length = len := by simp; omega
    refine ⟨(zs.take len).map (·.data.toList), some x, cap, by rw [hll], by rw [hll]; exact hl, hm, (fun e => by cases e), fun hne => ?_⟩
    have hpos : 0 < zs.length := by
      rcases Nat.eq_zero_or_pos zs.length with h0 | h0
      · exact absurd (by rw [List.length_eq_zero_iff.1 h0]; simp) hne
      · exact h0
    obtain ⟨b, off, spot⟩ := x
    cases spot with
    | some q =>
      exfalso
      have := hcell 0 hpos
      simp only [Addr.add, if_true] at this
      rw [World.cell?] at this
      split at this <;> simp at this
    | none =>
      refine ⟨b, off, rfl, fun j hj => ?_⟩
      rw [hll] at hj
      have := hcell j (by omega)
      rw [add_plain] at this
      rw [this]
      simp [List.getD, show j < zs.length by omega, tx_of]

end Go.Proofs.YtbofkmaajhfkeaaDoor.Path
