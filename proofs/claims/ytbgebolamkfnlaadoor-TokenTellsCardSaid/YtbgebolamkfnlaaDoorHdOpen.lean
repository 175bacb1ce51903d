/-
  A slice of fields among the arguments, opened.
-/
import Derived.Deep.SlicePairs
import Derived.Test.YtbgebolamkfnlaaDoorHdAwake
import Derived.Test.YtbgebolamkfnlaaDoorLaid
namespace Go.Proofs.YtbgebolamkfnlaaDoor.Head
set_option linter.unusedSimpArgs false
set_option linter.unusedVariables false
set_option maxRecDepth 100000


open Go.RowKit Go.Shelf Go.ChangeShapes Go.WideShapes

open Url (T)


def strV : Value → T
  | .string s => s.data.toList
  | _ => []

theorem add_spot (b off i : Nat) : (⟨b, off, none⟩ : Addr).add i = ⟨b, off + i, none⟩ := by unfold Addr.add; split <;> simp_all

theorem open_flds {H : Type} {enc : TypeId × Value → H} {W : World} {base : Nat} {spare : Nat → Bool} {held : Bool} {a : Option Addr} {len cap : Nat} {x : DataW H × List MemPlace}
    (h : ∃ fuel, DataW.trod enc Tryd.prog W base spare held fuel 22 (Value.cells (.slice a len cap)).toList = some x) : ∃ l, Flds W (.slice a len cap) l := by
  obtain ⟨fuel, hf⟩ := h
  rcases Deep.open_slice_pairs Tryd.underlying22 Tryd.underlying36 (by kernel_rfl) rfl rfl (by kernel_rfl) (by kernel_rfl) hf with ⟨hcs, _⟩ | ⟨ad, l, c, m, n, V0, V1, D0, D1, P0, P1, hcs, _, hl, hm, hmm, _, hx⟩
  · simp [Value.cells] at hcs
    obtain ⟨rfl, rfl, rfl⟩ := hcs
    exact ⟨[], Flds.nil W⟩
  · simp [Value.cells] at hcs
    obtain ⟨rfl, rfl, rfl⟩ := hcs
    have hlm : len ≤ m := by rw [hmm]; split <;> omega
    have hll : ((List.range len).map fun i => (strV (V0 i), strV (V1 i))).length = len := by simp
    refine ⟨(List.range len).map fun i => (strV (V0 i), strV (V1 i)), some ad, cap, by rw [hll], by rw [hll]; exact hl, hm, (fun e => by cases e), fun hne => ?_⟩
    have hpos : 0 < len := by
      rcases Nat.eq_zero_or_pos len with h0 | h0
      · exact absurd (by rw [h0]; rfl) hne
      · exact h0
    obtain ⟨b, off, spot⟩ := ad
    cases spot with
    | some q =>
      exfalso
      have := (hx 0 (by omega)).1
      simp only [Addr.add, Nat.zero_mul, if_true] at this
      rw [World.cell?] at this
      split at this <;> simp at this
    | none =>
      refine ⟨b, off, rfl, fun j hj => ?_⟩
      rw [hll] at hj
      obtain ⟨h1, h2, h3, h4⟩ := hx j (by omega)
      rw [add_spot] at h1 h2
      obtain ⟨s, e1, -⟩ := DataW.trod_string Tryd.underlying9 h3
      obtain ⟨t, e2, -⟩ := DataW.trod_string Tryd.underlying9 h4
      have e1' : V0 j = .string s := by simpa using e1
      have e2' : V1 j = .string t := by simpa using e2
      rw [h1, show off + j * 2 + 1 = off + (j * 2 + 1) by omega, h2, e1', e2']
      simp [e1', e2', strV, tb_of]

end Go.Proofs.YtbgebolamkfnlaaDoor.Head
