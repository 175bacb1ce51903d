/-
  slices.Reverse of a slice of bytes that the call owns: the same slice owns the bytes turned round; nothing else has changed.
-/
import Derived.Test.YtdmjolmclnnngaaSmall
import Derived.Sort.WalkB12
import Derived.Sort.OwnSorted
import Derived.Lib.SlicesMore
import Derived.Deep.LoopGhost
import Derived.Shelf.RegionOpenPlain
namespace Go.Proofs.Ytdmjolmclnnngaa
open Go.RowKit Go.Sort
set_option linter.unusedSimpArgs false
set_option linter.unusedVariables false

/-- A byte as a value. -/
def u8v (x : UInt8) : Value := .int .u8 (x.toNat : Int)

theorem holds_owned {w : World} {base g cap : Nat} {l : List UInt8} (h : w.ownsRow base 5 1 (.slice (some ⟨g, 0, none⟩) l.length cap) l.length (l.map u8v)) : Holds u8v w g 0 l.toArray := by
  rcases h.2 with ⟨e, _⟩ | ⟨g', cap', cur, e, _, hb, _, _, _, ht⟩
  · cases e
  cases e
  intro j hj
  have hj' : j < l.length := by simpa using hj
  refine ⟨?_, by simp [World.frozen?, hb]⟩
  have h1 : (cur.toList.take (l.length * 1))[j]? = (l.map u8v)[j]? := by rw [ht]
  rw [List.getElem?_take_of_lt (by omega)] at h1
  simp only [World.cell?, hb, Nat.zero_add]
  simp only [Option.isSome_none, Bool.false_eq_true, if_false]
  rw [← Array.getElem?_toList, h1]
  simp [hj']
theorem take_put (cur : Array Value) (ts : List UInt8) (h : ts.length ≤ cur.size) : (putCells u8v 0 ts.toArray cur).toList.take ts.length = ts.map u8v := by
  apply List.ext_getElem?
  intro j
  by_cases hj : j < ts.length
  · rw [List.getElem?_take_of_lt hj, Array.getElem?_toList]
    simp [putCells, hj, show j < cur.size by omega]
  · rw [List.getElem?_take_eq_none (by omega), List.getElem?_eq_none (by simp; omega)]
theorem owned_put {w : World} {base g cap n : Nat} {l ts : List UInt8} (hl : ts.length = l.length) (h : w.ownsRow base 5 1 (.slice (some ⟨g, 0, none⟩) l.length cap) l.length (l.map u8v)) :
    (putRow u8v (Sort.ahead w n) g 0 ts.toArray).ownsRow base 5 1 (.slice (some ⟨g, 0, none⟩) l.length cap) l.length (ts.map u8v) := by
  rcases h.2 with ⟨e, _⟩ | ⟨g', cap', cur, e, hbase, hb, h1, h2, h3, ht⟩
  · cases e
  cases e
  refine ⟨by simp [hl], .inr ⟨g, cap, putCells u8v 0 ts.toArray cur, rfl, hbase, ?_, h1, h2, by simp [putCells, h3], ?_⟩⟩
  · simp [putRow, mapBlock, Sort.ahead, Array.getElem?_modify, hb, onCells]
  · rw [Nat.mul_one, ← hl]
    exact take_put cur ts (by omega)
theorem grown_put {w : World} {g n : Nat} (d : Array UInt8) : w.grownBy (putRow u8v (Sort.ahead w n) g 0 d) (some g) := by
  refine ⟨rfl, rfl, rfl, by simp, fun k hk hne => ?_⟩
  have : g ≠ k := fun e => hne (by rw [e])
  simp [putRow, mapBlock, Sort.ahead, Array.getElem?_modify, this]

set_option maxHeartbeats 1600000 in
set_option maxRecDepth 100000 in
theorem reverse_row (g cap : Nat) (d : Array UInt8) (w : World) (hH : Holds u8v w g 0 d) (hsz : d.size ≤ 9223372036854775807) :
    Calls Try.prog 20 #[.slice (some ⟨g, 0, none⟩) d.size cap] w fun e w' => e = .returned (.tuple #[]) ∧ ∃ n, w' = putRow u8v (Sort.ahead w n) g 0 d.reverse := by
  go_enter Try.func20, Try.ntmps20
  go_wp2
  go_loopg [2, 3] d.size (fun m s2 s3 wr => ∃ (i j n : Nat) (z : Int) (c : Array UInt8), s2 = .int .i64 i ∧ s3 = .int .i64 z ∧ ((i : Int) < z → z = j ∧ j < d.size) ∧ (¬ (i : Int) < z → ¬ i < j) ∧ j - i ≤ m ∧
    c.size = d.size ∧ wr = putRow u8v (Sort.ahead w n) g 0 c ∧ reverseLoop i j c = reverseLoop 0 (d.size - 1) d)
  case atStart => exact ⟨0, d.size - 1, 0, (d.size : Int) - 1, d, rfl, rfl, fun h => ⟨by omega, by omega⟩, fun h => by omega, by omega, rfl, (putRow_self u8v w g 0 d hH).symm, rfl⟩
  case round =>
    obtain ⟨i, j, n, z, c, rfl, rfl, h1, h2, hk, hds, hwr, heq⟩ := hrel
    by_cases hlt : (i : Int) < z
    · obtain ⟨rfl, hjn⟩ := h1 hlt
      have hij : i < j := by omega
      have hHc : Holds u8v wr g 0 c := by rw [hwr]; exact holds_putRow u8v _ g 0 d c (holds_ahead u8v w n g 0 d hH) hds
      obtain ⟨ci, fi⟩ := hHc i (by omega)
      obtain ⟨cj, fj⟩ := hHc j (by omega)
      rw [Nat.zero_add] at ci fi cj fj
      unfold u8v at ci cj
      have A := Lib.hid hwr
      clear hwr hHc hH h1 h2
      go_wp2_with fail
      go_region
      go_wp2
      go_roundg (j - 1 - (i + 1))
      case measure => omega
      case rel =>
        rw [reverseLoop, if_pos hij] at heq
        refine ⟨i + 1, j - 1, n + 1, (j : Int) - 1, swp c i j, by simp, rfl, fun h => ⟨by omega, by omega⟩, fun h => by omega, Nat.le_refl _, by rw [size_swp]; exact hds, ?_, heq⟩
        have hs := swap_world u8v (i := i) (j := j) (by omega) (by omega) A.out rfl rfl
        rw [Nat.zero_add, Nat.zero_add] at hs
        rw [← hs]
        unfold u8v
        rw [getElem!_pos c j (by omega)]
    · have hnot := h2 hlt
      go_wp2
      go_end0
      refine ⟨rfl, n, ?_⟩
      rw [reverseLoop, if_neg hnot] at heq
      rw [← Lib.reverseLoop_reverse, ← heq]

theorem reverse_any (g cap base : Nat) (l : List UInt8) (hl : l.length ≤ 9223372036854775807) (w : World) (h : w.ownsRow base 5 1 (.slice (some ⟨g, 0, none⟩) l.length cap) l.length (l.map u8v)) :
    Calls Try.prog 20 #[.slice (some ⟨g, 0, none⟩) l.length cap] w fun e w' => e = .returned (.tuple #[]) ∧ w'.ownsRow base 5 1 (.slice (some ⟨g, 0, none⟩) l.length cap) l.length (l.reverse.map u8v) ∧ w.grownBy w' (some g) := by
  have := reverse_row g cap l.toArray w (holds_owned h) (by simpa using hl)
  rw [List.size_toArray] at this
  refine this.mono ?_
  rintro e w' ⟨he, n, rfl⟩
  rw [List.reverse_toArray]
  exact ⟨he, owned_put (by simp) h, grown_put _⟩

end Go.Proofs.Ytdmjolmclnnngaa
