/-
  What is put behind (Norm's closure): the box's slice with one text more; nothing else turns.
-/
import Derived.Test.YtbofkmaajhfkeaaDoorPaSmall
import Derived.Deep.AppendLies
import Derived.Deep.RegionLaw
import Derived.RangeFuncNested
import Derived.RangeFuncBox
namespace Go.Proofs.YtbofkmaajhfkeaaDoor.Path
open Go.RowKit Go.Shelf
set_option linter.unusedSimpArgs false
set_option linter.unusedVariables false

/-- A text as a value. -/
def tx (l : T) : Value := .string ⟨l.toArray⟩
theorem infoText : (Tryd.prog.info? 9).map (fun i => (i.zero, i.size, i.bytes)) = some (some (.string ⟨#[]⟩), 1, 16) := by kernel_rfl

/-- Nothing turns but the blocks Bo and row. -/
structure Turned (Bo : Nat) (row : Option Nat) (W W' : World) : Prop where
  os : W'.os = W.os
  tape : W'.tape = W.tape
  output : W'.output = W.output
  size : W.heap.size ≤ W'.heap.size
  block : ∀ k, k < W.heap.size → k ≠ Bo → some k ≠ row → W'.heap[k]? = W.heap[k]?

theorem boxed_below {W W' : World} {B : Nat} {t : TypeId} {v : Value} (h : Boxed W B t v) (hB : Below W.heap.size W W') : Boxed W' B t v := (hB.block B h.lt).trans h
theorem owns_below {W W' : World} {base : Nat} {e : TypeId} {size : Nat} {v : Value} {k : Nat} {xs : List Value} (h : W.ownsRow base e size v k xs) (hB : Below W.heap.size W W') : W'.ownsRow base e size v k xs := by
  refine ⟨h.1, ?_⟩
  rcases h.2 with h' | ⟨g, cap, cur, rfl, hb, hg, h'⟩
  · exact .inl h'
  · exact .inr ⟨g, cap, cur, rfl, hb, (hB.block g (Array.getElem?_eq_some_iff.1 hg).1).trans hg, h'⟩

theorem turned_of {W w1 w2 : World} {o : Obj} {Bo : Nat} {row : Option Nat} (hB : Below W.drew.heap.size W.drew w1) (hg : (w1.alloc o).grownBy w2 row) (u : Value) : Turned Bo row W (w2.setCell ⟨Bo, 0, none⟩ u) := by
  have h1 := hB.size
  have h2 := hg.size
  have h3 := (grownBy_setCell' w2 Bo u).size
  simp only [World.size_alloc] at h2
  have h0 : W.drew.heap = W.heap := rfl
  rw [h0] at h1 hB
  refine ⟨hg.os.trans hB.os, hg.tape.trans hB.tape, hg.output.trans hB.output, by omega, fun k hk hne hr => ?_⟩
  have hk1 : k < w1.heap.size := by omega
  exact (((grownBy_setCell' w2 Bo u).block k (by omega) (fun e => hne (by cases e; rfl))).trans (hg.block k (by simp; omega) hr)).trans ((Below.heap_alloc w1 o k hk1).trans (hB.block k hk))

set_option maxRecDepth 100000 in
set_option maxHeartbeats 4000000 in
theorem behind_any (B Bo : Nat) (v : Value) (l : List T) (s : ByteArray) (W : World) (hs : s.size ≤ 1000000) (hv : Boxed W Bo 22 v) (hrow : W.ownsRow B 9 1 v l.length (l.map tx)) (hk : l.length + 1 ≤ 1000000) (hB : B ≤ W.heap.size) :
    Calls Tryd.prog 23 #[.string s, .pointer (some ⟨Bo, 0, none⟩)] W fun e W' => (∃ u, e = .returned u) ∧ ∃ v', Boxed W' Bo 22 v' ∧ W'.ownsRow B 9 1 v' (l ++ [s.data.toList]).length ((l ++ [s.data.toList]).map tx) ∧ Turned Bo v.ownBlock W W' := by
  obtain ⟨i0, hi, hz0, hz1, hz2⟩ := info_parts infoText
  have hc0 := hv.cell
  obtain ⟨xs, hxs⟩ : ∃ xs, l.map tx = xs := ⟨_, rfl⟩
  obtain ⟨n, hn⟩ : ∃ n, l.length = n := ⟨_, rfl⟩
  rw [hxs, hn] at hrow
  rw [hn] at hk
  have HXS := Lib.hid hxs
  have HN := Lib.hid hn
  clear hxs hn
  have hvl := hv.lt
  go_enter Tryd.func23, Tryd.ntmps23
  go_wp2
  go_region_law (first
    | (go_simp; go_at_call 24; refine (clone_any s (by omega) _).mono ?_; rintro e w1 ⟨rfl, hB1⟩; have hv1 : Boxed w1 Bo 22 v := boxed_below (W := W.drew) hv hB1; have hc1 := hv1.cell; have hv2 := hv1.alloc (.cells #[.string s] 9); have hc1' := hv2.cell; have hrow2 := (owns_below (W := W.drew) hrow hB1).alloc (.cells #[.string s] 9); have hne := hv2.not_row (by decide) hrow2)
    | (refine step_append_lies _ rfl _ _ 22 rfl B 9 i0 (.string ⟨#[]⟩) 1 16 Tryd.underlying22 hi hz0 hz1 hz2 rfl (by decide) _ _ _ rfl hrow2 ⟨w1.heap.size, 0, none⟩ 1 1 [.string s] rfl rfl (cell_one_new _ _ _) (by simp [Value.oneCell']) (by decide) (by unfold maxLen; omega) (by omega) (by have := hB1.size; simp at this ⊢; omega) _ rfl ?_; intro g cap w2 hown' hgrow hblk hlt; have hc2 := (hv2.kept hgrow hne).cell; have hf2 := (hv2.kept hgrow hne).frozen))
  all_goals
    go_wp2
    go_end0
    have hv3 := hv2.kept hgrow hne
    refine ⟨⟨_, rfl⟩, _, hv3.set _, ?_, turned_of hB1 hgrow _⟩
    rw [List.map_append, HXS.out, List.length_append, HN.out, show [s.data.toList].map tx = [.string s] by simp [tx, tx_of]]
    exact hown'.kept (grownBy_setCell' w2 Bo _) (.inr (hv3.not_row (by decide) hown').symm)

end Go.Proofs.YtbofkmaajhfkeaaDoor.Path
