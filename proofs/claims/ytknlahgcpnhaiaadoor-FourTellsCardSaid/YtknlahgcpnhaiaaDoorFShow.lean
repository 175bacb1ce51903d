/-
  Show(n).
-/
import Derived.Test.YtknlahgcpnhaiaaDoorFSmall
namespace Go.Proofs.YtknlahgcpnhaiaaDoor.Four
open Go.RowKit
set_option linter.unusedSimpArgs false
set_option linter.unusedVariables false

/-- Block g holds the texts l, and they may be written. -/
def HeldS (W : World) (g : Nat) (l : List ByteArray) : Prop := ∀ j (h : j < l.length), W.cell? ⟨g, j, none⟩ = some (.string l[j]) ∧ W.frozen? ⟨g, j, none⟩ = false
theorem heldS_set {W : World} {g : Nat} {l : List ByteArray} (h : HeldS W g l) (k : Nat) (hk : k < l.length) (x : ByteArray) : HeldS (W.setCell ⟨g, k, none⟩ (.string x)) g (l.set k x) := by
  intro j hj
  have hj' : j < l.length := by simpa using hj
  refine ⟨?_, by rw [World.frozen?_setCell]; exact (h j hj').2⟩
  by_cases e : j = k
  · subst e
    rw [World.cell?_setCell_same (h := (h j hj').1)]
    simp
  · rw [World.cell?_setCell_other (h := fun h => e (by cases h; rfl)), (h j hj').1]
    rw [List.getElem_set_ne (by omega)]
theorem heldS_below {W W' : World} {g : Nat} {l : List ByteArray} (h : HeldS W g l) {B : Nat} (hB : Below B W W') (hg : g < B) : HeldS W' g l :=
  fun j hj => ⟨(hB.cell (p := ⟨g, j, none⟩) hg).trans (h j hj).1, (hB.frozen (p := ⟨g, j, none⟩) hg).trans (h j hj).2⟩

/-- A byte's text. -/
def sh (n i : Nat) : ByteArray := ⟨(Deci.showN (byt n i)).toArray⟩
/-- The first k are told. -/
def row4 (n k : Nat) : List ByteArray := (List.range 4).map fun j => if j < k then sh n j else ⟨#[]⟩
theorem row4_len (n k : Nat) : (row4 n k).length = 4 := by simp [row4]
theorem row4_next (n k : Nat) (h : k < 4) (h' : k < (row4 n k).length) : (row4 n k)[k] = ⟨#[]⟩ := by simp [row4]
theorem row4_set (n k : Nat) (h : k < 4) : (row4 n k).set k (sh n k) = row4 n (k + 1) := by
  obtain rfl | rfl | rfl | rfl : k = 0 ∨ k = 1 ∨ k = 2 ∨ k = 3 := by omega
  all_goals simp [row4, List.range, List.range.loop]
theorem row4_all (n : Nat) : row4 n 4 = [sh n 0, sh n 1, sh n 2, sh n 3] := by simp [row4, List.range, List.range.loop]
theorem row4_new (w : World) (n : Nat) : HeldS (w.alloc (.cells #[.string ⟨#[]⟩, .string ⟨#[]⟩, .string ⟨#[]⟩, .string ⟨#[]⟩] 39)) w.heap.size (row4 n 0) := by
  intro j hj
  rw [row4_len] at hj
  rw [World.cell?_alloc_at _ _ _ _ rfl, World.frozen?_alloc_at _ _ _ _ rfl]
  obtain rfl | rfl | rfl | rfl : j = 0 ∨ j = 1 ∨ j = 2 ∨ j = 3 := by omega
  all_goals simp [row4]

theorem show_at (n : Nat) (hn : n ≤ 9223372036854775807) (x : ByteArray) (hx : (⟨(Deci.showN n).toArray⟩ : ByteArray) = x) (w : World) :
    Calls Tryd.prog 18 #[.int .i64 n] w fun e W' => e = .returned (.string x) ∧ Below w.heap.size w W' := by
  subst hx
  have := Deci.show_calls (n : Int) (by omega) (by omega) w
  rw [Deci.showI_nonneg (by omega), show ((n : Int)).toNat = n by omega] at this
  exact this
theorem join_at (n g : Nat) (hn : n ≤ 4294967295) (w : World) (hg : g < w.heap.size) (h : HeldS w g (row4 n 4)) :
    Calls Tryd.prog 26 #[.slice (some ⟨g, 0, none⟩) 4 4, .string ⟨#[46]⟩] w fun e W' => e = .returned (.string ⟨(show4 n).toArray⟩) ∧ Below w.heap.size w W' := by
  have e : Lib.join ((row4 n 4).map (·.data.toList)) (⟨#[46]⟩ : ByteArray).data.toList = show4 n := by
    rw [row4_all]
    exact join_four _ _ _ _
  have hl := (show4_len n hn).2
  have := Tryd.strings_Join g 0 4 (row4 n 4) ⟨#[46]⟩ w (fun j x hj => by
    obtain ⟨hlt, ex⟩ := List.getElem?_eq_some_iff.1 hj
    rw [Nat.zero_add, (h j hlt).1, ex]) hg (by rw [row4_len]; omega) (by rw [row4_len]; omega) (by rw [e]; omega)
  rw [e, row4_len] at this
  exact this

set_option maxRecDepth 100000 in
set_option maxHeartbeats 2000000 in
theorem showIn (n : Nat) (hn : n ≤ 4294967295) (w : World) :
    Calls Tryd.prog 13 #[.int .i64 n] w fun e W' => e = .returned (.string ⟨(show4 n).toArray⟩) ∧ Below w.heap.size w W' := by
  have hf := fits_any n w
  have ef : fitsB (n : Int) = true := by unfold fitsB; simp; omega
  rw [ef] at hf
  clear ef
  have HN := Lib.hid hn
  clear hn
  go_enter Tryd.func13, Tryd.ntmps13
  go_wp2_with (go_at_call 24; refine hf.mono ?_; rintro e w' ⟨rfl, rfl⟩)
  have hB0 : Below w.heap.size w (w.alloc (.cells #[.string ⟨#[]⟩, .string ⟨#[]⟩, .string ⟨#[]⟩, .string ⟨#[]⟩] 39)) := (Below.refl _ w).alloc (Nat.le_refl _) _
  have hH0 := row4_new w n
  have hg0 : w.heap.size < (w.alloc (.cells #[.string ⟨#[]⟩, .string ⟨#[]⟩, .string ⟨#[]⟩, .string ⟨#[]⟩] 39)).heap.size := by simp
  go_loopw [4, 8] (fun _ i wr => ∃ k : Nat, k ≤ 4 ∧ i = .int .i64 k ∧ HeldS wr w.heap.size (row4 n k) ∧ w.heap.size < wr.heap.size ∧ Below w.heap.size w wr) (fun _ i _ => 4 - (intOf i).toNat)
  case atStart => exact ⟨0, Nat.zero_le _, rfl, hH0, hg0, hB0⟩
  case round =>
    clear hH0 hB0 hg0
    obtain ⟨k, hk, rfl, hH, hg, hw⟩ := hrel
    have HH := Lib.hid hH
    have HG := Lib.hid hg
    clear hH hg
    by_cases hlt : k < 4
    · have t1 : (k : Int) < 4 := by omega
      have hb := byteAt_any n HN.out k hlt wr
      have hs := show_at (byt n k) (by have := byt_lt n k HN.out; omega) (sh n k) rfl wr
      have hk4 := Lib.hid (show k < (row4 n k).length by rw [row4_len]; exact hlt)
      go_wp2_with (first | (go_at_call 25; refine hb.mono ?_; rintro e w' ⟨rfl, rfl⟩) | (go_at_call 18; refine hs.mono ?_; rintro e w2 ⟨rfl, hB2⟩; obtain ⟨hc2, hf2⟩ := heldS_below HH.out hB2 HG.out k hk4.out))
      go_roundw
      case rel =>
        refine ⟨k + 1, by omega, by go_num, ?_, ?_, (hw.trans (hB2.mono hw.size)).setCell (p := ⟨w.heap.size, k, none⟩) (Nat.le_refl _) _⟩
        · rw [← row4_set n k hlt]
          exact heldS_set (heldS_below HH.out hB2 HG.out) k hk4.out (sh n k)
        · have h1 := HG.out
          have h2 := hB2.size
          simp [World.setCell]
          omega
      case measure => simp [intOf]; omega
    · obtain rfl : k = 4 := by omega
      have hj := join_at n w.heap.size HN.out wr HG.out HH.out
      go_wp2_with (go_at_call 26; refine hj.mono ?_; rintro e w' ⟨rfl, hB2⟩)
      go_ret
      exact ⟨rfl, hw.trans (hB2.mono hw.size)⟩

set_option maxHeartbeats 400000 in
theorem showOut (n : Int) (h : fitsB n = false) (w : World) :
    Calls Tryd.prog 13 #[.int .i64 n] w fun e W' => e = .returned (.string ⟨#[]⟩) ∧ Below w.heap.size w W' := by
  have hf := fits_any n w
  rw [h] at hf
  clear h
  go_enter Tryd.func13, Tryd.ntmps13
  go_wp2_with (go_at_call 24; refine hf.mono ?_; rintro e w' ⟨rfl, rfl⟩)
  go_ret
  exact ⟨rfl, Below.refl _ _⟩
/-- Show, of any number. -/
theorem showF_at (n : Int) (x : ByteArray) (hx : (⟨(showF n).toArray⟩ : ByteArray) = x) (w : World) :
    Calls Tryd.prog 13 #[.int .i64 n] w fun e W' => e = .returned (.string x) ∧ Below w.heap.size w W' := by
  subst hx
  unfold showF
  cases h : fitsB n
  · exact showOut n h w
  · obtain ⟨h0, h1⟩ := fitsB_true h
    obtain ⟨k, rfl⟩ : ∃ k : Nat, n = (k : Int) := ⟨n.toNat, by omega⟩
    exact showIn k (by omega) w
end Go.Proofs.YtknlahgcpnhaiaaDoor.Four
