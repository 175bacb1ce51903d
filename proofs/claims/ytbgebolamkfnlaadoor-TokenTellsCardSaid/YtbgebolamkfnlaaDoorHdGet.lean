/-
  Get(l, name): strings.Join of all the values.
-/
import Derived.Test.YtbgebolamkfnlaaDoorHdSet
namespace Go.Proofs.YtbgebolamkfnlaaDoor.Head
set_option linter.unusedSimpArgs false
set_option linter.unusedVariables false
set_option maxRecDepth 100000


open Go.RowKit Go.Shelf

open Url

open Path (Strs tx infoText)


theorem join_any (v : Value) (l : List T) (hl : l.length ≤ 100000) (k : Nat) (hk : k ≤ 1000000) (hs : ∀ t ∈ l, t.length ≤ k) (w : World) (h : Strs w v l) :
    Calls Tryd.prog 50 #[v, .string ⟨#[44, 32]⟩] w fun e w' => e = .returned (.string (tb (Lib.join l [44, 32]))) ∧ Below w.heap.size w w' := by
  obtain ⟨a, c, rfl, h1, h2, h3, h4⟩ := h
  by_cases hl0 : l = []
  · subst hl0
    refine (Tryd.strings_Join_none a c ⟨#[44, 32]⟩ w).mono ?_
    rintro e w' ⟨rfl, rfl⟩
    exact ⟨rfl, Below.refl _ _⟩
  · obtain ⟨b, off, rfl, hc⟩ := h4 hl0
    have hm : (l.map tb).map (·.data.toList) = l := by
      rw [List.map_map]
      have : ((fun x : ByteArray => x.data.toList) ∘ tb) = id := funext tb_list
      rw [this, List.map_id]
    have hjl := join_len l k hs
    have hmul : l.length * (k + 2) ≤ 100000 * 1000002 := Nat.mul_le_mul hl (by omega)
    have hj := Tryd.strings_Join b off c (l.map tb) ⟨#[44, 32]⟩ w (fun j x hx => by
      rw [List.getElem?_map] at hx
      by_cases hj : j < l.length
      · rw [List.getElem?_eq_getElem hj] at hx
        rw [hc j hj, ← Option.some.inj hx]; rfl
      · rw [List.getElem?_eq_none (by omega)] at hx; cases hx) (World.block_lt_of_cell? _ _ (hc 0 (List.length_pos_iff.2 hl0))) (by rw [List.length_map]; omega) (by rw [List.length_map]; exact h1)
      (by rw [hm, show (⟨#[44, 32]⟩ : ByteArray).data.toList = [44, 32] from rfl]; omega)
    rw [hm, List.length_map] at hj
    exact hj

set_option maxRecDepth 100000 in
set_option maxHeartbeats 2000000 in
theorem get_any (v : Value) (l : List F) (hl : l.length ≤ 100000) (hs : ∀ f ∈ l, f.1.length ≤ 1000000 ∧ f.2.length ≤ 1000000) (n : ByteArray) (hn : n.size ≤ 1000000) (w : World) (h : Flds w v l) :
    Calls Tryd.prog 31 #[v, .string n] w fun e w' => e = .returned (.tuple #[.string (tb (getT l n.data.toList)), .bool (getB l n.data.toList)]) ∧ Below w.heap.size w w' := by
  have cA := all_any v l hl hs n hn w h
  have hal := all_len l n.data.toList
  have ham : ∀ t ∈ allL l n.data.toList, t.length ≤ 1000000 := fun t ht => by
    obtain ⟨f, hf, rfl⟩ := all_mem l n.data.toList t ht
    exact (hs f hf).2
  obtain ⟨a, c, rfl, -⟩ := h
  go_enter Tryd.func31, Tryd.ntmps31
  go_wp2_with fail
  refine cA.mono ?_
  rintro e w1 ⟨v1, rfl, hst, hB1⟩
  have hst' := hst
  obtain ⟨a1, c1, rfl, -⟩ := hst'
  go_wp2_with fail
  refine (join_any _ _ (by omega) 1000000 (by omega) ham w1 hst).mono ?_
  rintro e w2 ⟨rfl, hB2⟩
  have hb := Lib.hid (Ascii.below2 hB1 hB2)
  go_wp2
  go_ret2
  exact ⟨rfl, hb.out⟩

end Go.Proofs.YtbgebolamkfnlaaDoor.Head
