/-
  Narrow(s), and the document's Narrow and Wide.
-/
import Derived.Test.YtkhpbcdjmcpgdaaIWide
import Derived.Deep.QuietTactic
import Derived.BigQuiet
import Derived.Deep.RegionWith
import Derived.BigRegion
import Derived.Deep.AppendLies
import Derived.Deep.RegionLaw
namespace Go.Proofs.Ytkhpbcdjmcpgdaa.Iso
open Go.RowKit
set_option linter.unusedSimpArgs false
set_option linter.unusedVariables false

/-- 'x.(byte)', where x holds a byte, and where it holds a character. -/
theorem is_byte (v : Value) (xT : TypeId) (w : World) : (Instr.typeAssert (.iface 5 v) xT 5 true).run Try.prog w = .ok (.tuple #[v, .bool true]) w := by
  simp [Instr.typeAssert, run_underlying Try.underlying5, go_sem, Result.andThen]
theorem is_rune (v : Value) (xT : TypeId) (w : World) : (Instr.typeAssert (.iface 21 v) xT 5 true).run Try.prog w = .ok (.tuple #[.int .u8 0, .bool false]) w := by
  obtain ⟨i0, hi, hz0, hz1, hz2⟩ := info_parts Try.infoByte
  simp [Instr.typeAssert, run_underlying Try.underlying5, go_sem, Result.andThen, zeroValue, typeInfo, hi, hz0]

/-- What Narrow answers. -/
def narT (l : List UInt8) : ByteArray := ⟨((narrow l).getD []).toArray⟩
def narB (l : List UInt8) : Bool := (narrow l).isSome

/-- A row that the call owns stays one while an iterator moves on. -/
theorem owns_iterAt {w : World} {base : Nat} {v : Value} {n : Nat} {xs : List Value} (h : w.ownsRow base 5 1 v n xs) {k : Nat} {s : ByteArray} {pos : Nat} (hk : w.heap[k]? = some (.stringIter s pos)) (pos' : Nat) :
    (w.iterAt k s pos').ownsRow base 5 1 v n xs := by
  refine ⟨h.1, ?_⟩
  rcases h.2 with hn | ⟨g, cap, cur, hv, hbg, hg, rest⟩
  · exact .inl hn
  · have hkg : g ≠ k := by
      intro e1
      rw [e1, hk] at hg
      cases hg
    exact .inr ⟨g, cap, cur, hv, hbg, (Lib.iterAt_other w k g s pos' hkg).trans hg, rest⟩
/-- An iterator stands where it stood behind an append onto a row that the call owns. -/
theorem iter_grown {W w2 : World} {base : Nat} {v : Value} {n : Nat} {xs : List Value} (hrow : W.ownsRow base 5 1 v n xs) (hgrow : W.grownBy w2 v.ownBlock) {k : Nat} {s : ByteArray} {pos : Nat} (hk : W.heap[k]? = some (.stringIter s pos)) :
    w2.heap[k]? = some (.stringIter s pos) := by
  have hlt : k < W.heap.size := (Array.getElem?_eq_some_iff.1 hk).1
  rw [hgrow.block k hlt ?_]
  · exact hk
  · intro e
    rcases hrow.2 with ⟨rfl, _⟩ | ⟨g, cap, cur, rfl, _, hg, _⟩
    · simp [Value.ownBlock] at e
    · obtain rfl : k = g := by simpa [Value.ownBlock] using e
      rw [hk] at hg
      cases hg
theorem iter_alloc {W : World} (o : Obj) {k : Nat} {s : ByteArray} {pos : Nat} (hk : W.heap[k]? = some (.stringIter s pos)) : (W.alloc o).heap[k]? = some (.stringIter s pos) := by
  have hlt : k < W.heap.size := (Array.getElem?_eq_some_iff.1 hk).1
  show (W.heap.push o)[k]? = _
  rw [Array.getElem?_push_lt hlt]
  rw [← hk]
  exact (Array.getElem?_eq_getElem hlt).symm

theorem nar_none {S l : List UInt8} {o : Option (List UInt8)} (h : narrow S = o.map (l ++ ·)) (ho : o = none) : narT S = ⟨#[]⟩ ∧ narB S = false := by
  subst ho
  unfold narT narB
  rw [h]
  exact ⟨rfl, rfl⟩
theorem nar_done {S l : List UInt8} {o : Option (List UInt8)} (h : narrow S = o.map (l ++ ·)) (ho : o = some []) : narT S = ⟨l.toArray⟩ ∧ narB S = true := by
  subst ho
  unfold narT narB
  rw [h]
  exact ⟨by simp, rfl⟩
theorem nar_end (s : ByteArray) (k : Nat) (h : ¬ k < s.size) : narrow (s.data.toList.drop k) = some [] := by
  rw [List.drop_of_length_le (by show s.size ≤ k; omega), narrow_nil]
theorem nar_next {S l : List UInt8} {o p : Option (List UInt8)} {x : UInt8} (h : narrow S = o.map (l ++ ·)) (ho : o = p.map (x :: ·)) : narrow S = p.map ((l ++ [x]) ++ ·) := by
  rw [h, ho]
  cases p <;> simp
theorem dec_nonneg (n : Nat) : (0 : Int) ≤ (n : Int) := by omega

set_option maxRecDepth 100000 in
set_option maxHeartbeats 4000000 in
theorem narrow_any (s : ByteArray) (hs : s.size ≤ 1000000) (w : World) :
    Calls Try.prog 10 #[.string s] w fun e w' => e = .returned (.tuple #[.string (narT s.data.toList), .bool (narB s.data.toList)]) ∧ Below w.heap.size w w' := by
  obtain ⟨i0, hi, hz0, hz1, hz2⟩ := info_parts Try.infoByte
  go_enter Try.func10, Try.ntmps10
  go_wp2_with (at_make; refine wpList_make_own _ rfl _ _ 29 rfl w.heap.size 5 i0 (.int .u8 0) 1 Try.underlying29 hi hz0 hz1 .i64 .i64 _ s.size rfl rfl rfl (by rw [hz2]; omega) (by unfold maxLen; omega) (Nat.le_refl _) ?_; intro w1 hown0 hg0)
  have hB1 : Below w.heap.size w w1 := (Below.refl _ w).grown hg0 (Nat.le_refl _) (fun j e => by cases e)
  go_loopw [4, 6, 7, 8] (fun v _ _ _ wr => ∃ (pos : Nat) (l : List UInt8), wr.ownsRow w.heap.size 5 1 v l.length (l.map u8v) ∧ wr.heap[w1.heap.size]? = some (.stringIter s pos) ∧ Hid (narrow s.data.toList = (narrow (s.data.toList.drop pos)).map (l ++ ·)) ∧ l.length ≤ pos ∧ Below w.heap.size w wr) (fun _ _ _ _ wr => s.size - wr.iterPos w1.heap.size)
  case atStart => exact ⟨0, [], hown0.alloc _, World.iter_heap w1 s 0, Lib.hid (by simp), Nat.le_refl _, hB1.alloc hB1.size _⟩
  case round =>
    obtain ⟨pos, l, hrow, hit, hnar, hlen, hB⟩ := hrel
    by_cases hp : pos < s.size
    · have hnx : ∀ ty, (Instr.next (.pointer (some ⟨w1.heap.size, 0, none⟩)) true ty).run Try.prog wr = _ := fun ty => Lib.run_next_any_at wr w1.heap.size s pos ty hit hp
      have hwd := (step_count s pos hp).1
      have hrow2 := owns_iterAt hrow hit (pos + (Utf8.decode s pos).2)
      have hit2 := Lib.iterAt_heap wr w1.heap.size s pos (pos + (Utf8.decode s pos).2) hit
      have hB2 := Lib.below_iterAt hB (k := w1.heap.size) hB1.size s (pos + (Utf8.decode s pos).2)
      have hpos : wr.iterPos w1.heap.size = pos := by simp only [World.iterPos, hit]
      have HP := Lib.hid hpos
      clear hpos
      by_cases hd : (Utf8.decode s pos).1 ≤ 255
      · have hst := Lib.hid (nar_next hnar.out (step_narrow s pos hp hd))
        have hx : ((UInt8.ofNat (Utf8.decode s pos).1).toNat : Int) = ((Utf8.decode s pos).1 : Int) := by rw [ofNat_toNat _ hd]
        have hcall := told_low ((Utf8.decode s pos).1 : Int) (by omega) (by simp; omega) (wr.iterAt w1.heap.size s (pos + (Utf8.decode s pos).2))
        rw [← hx] at hcall hnx
        generalize UInt8.ofNat (Utf8.decode s pos).1 = x at hst hx hcall hnx
        clear hx hd
        generalize (Utf8.decode s pos).2 = m at *
        generalize wr.iterAt w1.heap.size s (pos + m) = W at *
        have hb2 : l.length + 1 ≤ maxLen := by unfold maxLen; omega
        have hb3 : (l.length + 1) * 1 ≤ 140737488355328 := by omega
        have hsz := hB2.size
        have hsz1 : w.heap.size ≤ (W.alloc (.cells #[.int .u8 (x.toNat : Int)] 5)).heap.size := by simp; omega
        have hone : ∀ u ∈ [Value.int .u8 (x.toNat : Int)], u.oneCell' = true := by simp [Value.oneCell']
        have HO := Lib.hid hone
        clear hone hrow hit hB
        have his := is_byte (.int .u8 (x.toNat : Int)) 20 W
        go_wp2_with (first | (go_at_call 18; refine hcall.mono ?_; rintro e w' ⟨rfl, rfl⟩) | (at_builtin; refine wpList_append_own _ rfl _ _ 29 rfl w.heap.size 5 i0 (.int .u8 0) 1 1 Try.underlying29 hi hz0 hz1 hz2 rfl (by decide) _ _ _ rfl (hrow2.alloc _) ⟨W.heap.size, 0, none⟩ 1 1 [.int .u8 (x.toNat : Int)] rfl rfl (cell_one_new _ _ _) HO.out hb2 hb3 hsz1 ?_; intro v' w2 hown' hgrow _))
        have hit3 := iter_grown (hrow2.alloc _) hgrow (iter_alloc _ hit2)
        go_roundw
        case rel => exact ⟨pos + m, l ++ [x], by simpa [u8v] using hown', hit3, hst, by simp; omega, (hB2.alloc hB2.size _).trans (grown_below (hrow2.alloc _) hsz1 hgrow)⟩
        case measure =>
          simp only [World.iterPos, hit3]
          have := HP.out
          simp only [World.iterPos] at this
          omega
      · have hst := Lib.hid (nar_none hnar.out (step_none s pos hp hd))
        have hcall := told_high ((Utf8.decode s pos).1 : Int) (by simp; omega) (wr.iterAt w1.heap.size s (pos + (Utf8.decode s pos).2))
        generalize (Utf8.decode s pos).2 = m at *
        generalize (Utf8.decode s pos).1 = d at *
        generalize wr.iterAt w1.heap.size s (pos + m) = W at *
        have his := is_rune (.int .i32 (d : Int)) 20 W
        go_wp2_with (go_at_call 18; refine hcall.mono ?_; rintro e w' ⟨rfl, rfl⟩)
        go_ret2
        exact ⟨by rw [hst.out.1, hst.out.2]; rfl, hB2⟩
    · have hnx : ∀ ty, (Instr.next (.pointer (some ⟨w1.heap.size, 0, none⟩)) true ty).run Try.prog wr = _ := fun ty => Lib.run_next_end_at wr w1.heap.size s pos ty hit hp
      have hst := Lib.hid (nar_done hnar.out (nar_end s pos hp))
      have hcv := conv_owned hrow
      go_wp2
      go_ret2
      exact ⟨by rw [hst.out.1, hst.out.2]; rfl, hB⟩

set_option maxRecDepth 100000 in
set_option maxHeartbeats 4000000 in
theorem refNarrow_any (s : ByteArray) (hs : s.size ≤ 1000000) (w : World) :
    Calls Try.prog 11 #[.string s] w fun e w' => e = .returned (.tuple #[.string (narT s.data.toList), .bool (narB s.data.toList)]) ∧ Below w.heap.size w w' := by
  obtain ⟨i0, hi, hz0, hz1, hz2⟩ := info_parts Try.infoByte
  go_enter Try.func11, Try.ntmps11
  go_wp2
  go_loopw [4, 6] (fun v _ wr => ∃ (pos : Nat) (l : List UInt8), wr.ownsRow w.heap.size 5 1 v l.length (l.map u8v) ∧ wr.heap[w.heap.size]? = some (.stringIter s pos) ∧ Hid (narrow s.data.toList = (narrow (s.data.toList.drop pos)).map (l ++ ·)) ∧ l.length ≤ pos ∧ Below w.heap.size w wr) (fun _ _ wr => s.size - wr.iterPos w.heap.size)
  case atStart => exact ⟨0, [], ⟨rfl, .inl ⟨rfl, rfl⟩⟩, World.iter_heap w s 0, Lib.hid (by simp), Nat.le_refl _, (Below.refl _ w).alloc (Nat.le_refl _) _⟩
  case round =>
    obtain ⟨pos, l, hrow, hit, hnar, hlen, hB⟩ := hrel
    by_cases hp : pos < s.size
    · have hnx : ∀ ty, (Instr.next (.pointer (some ⟨w.heap.size, 0, none⟩)) true ty).run Try.prog wr = _ := fun ty => Lib.run_next_any_at wr w.heap.size s pos ty hit hp
      have hwd := (step_count s pos hp).1
      have hrow2 := owns_iterAt hrow hit (pos + (Utf8.decode s pos).2)
      have hit2 := Lib.iterAt_heap wr w.heap.size s pos (pos + (Utf8.decode s pos).2) hit
      have hB2 := Lib.below_iterAt hB (k := w.heap.size) (Nat.le_refl _) s (pos + (Utf8.decode s pos).2)
      have hpos : wr.iterPos w.heap.size = pos := by simp only [World.iterPos, hit]
      have HP := Lib.hid hpos
      clear hpos
      by_cases hd : (Utf8.decode s pos).1 ≤ 255
      · have hst := Lib.hid (nar_next hnar.out (step_narrow s pos hp hd))
        have hx : ((UInt8.ofNat (Utf8.decode s pos).1).toNat : Int) = ((Utf8.decode s pos).1 : Int) := by rw [ofNat_toNat _ hd]
        rw [← hx] at hnx
        generalize UInt8.ofNat (Utf8.decode s pos).1 = x at hst hx hnx
        clear hx hd
        have lx := x.toNat_lt
        have t1 : decide (255 < (x.toNat : Int)) = false := by simp; omega
        generalize (Utf8.decode s pos).2 = m at *
        generalize wr.iterAt w.heap.size s (pos + m) = W at *
        have hb2 : l.length + 1 ≤ maxLen := by unfold maxLen; omega
        have hb3 : (l.length + 1) * 1 ≤ 140737488355328 := by omega
        have hsz := hB2.size
        have hsz1 : w.heap.size ≤ (W.alloc (.cells #[.int .u8 (x.toNat : Int)] 5)).heap.size := by simp; omega
        have hone : ∀ u ∈ [Value.int .u8 (x.toNat : Int)], u.oneCell' = true := by simp [Value.oneCell']
        have HO := Lib.hid hone
        clear hone hrow hit hB
        go_wp2_with (at_builtin; refine wpList_append_own _ rfl _ _ 29 rfl w.heap.size 5 i0 (.int .u8 0) 1 1 Try.underlying29 hi hz0 hz1 hz2 rfl (by decide) _ _ _ rfl (hrow2.alloc _) ⟨W.heap.size, 0, none⟩ 1 1 [.int .u8 (x.toNat : Int)] rfl rfl (cell_one_new _ _ _) HO.out hb2 hb3 hsz1 ?_; intro v' w2 hown' hgrow _)
        have hit3 := iter_grown (hrow2.alloc _) hgrow (iter_alloc _ hit2)
        go_roundw
        case rel => exact ⟨pos + m, l ++ [x], by simpa [u8v] using hown', hit3, hst, by simp; omega, (hB2.alloc hB2.size _).trans (grown_below (hrow2.alloc _) hsz1 hgrow)⟩
        case measure =>
          simp only [World.iterPos, hit3]
          have := HP.out
          simp only [World.iterPos] at this
          omega
      · have hst := Lib.hid (nar_none hnar.out (step_none s pos hp hd))
        have t1 : decide (255 < ((Utf8.decode s pos).1 : Int)) = true := by simp; omega
        generalize (Utf8.decode s pos).2 = m at *
        generalize (Utf8.decode s pos).1 = d at *
        generalize wr.iterAt w.heap.size s (pos + m) = W at *
        go_wp2
        go_ret2
        exact ⟨by rw [hst.out.1, hst.out.2]; rfl, hB2⟩
    · have hnx : ∀ ty, (Instr.next (.pointer (some ⟨w.heap.size, 0, none⟩)) true ty).run Try.prog wr = _ := fun ty => Lib.run_next_end_at wr w.heap.size s pos ty hit hp
      have hst := Lib.hid (nar_done hnar.out (nar_end s pos hp))
      have hcv := conv_owned hrow
      go_wp2
      go_ret2
      exact ⟨by rw [hst.out.1, hst.out.2]; rfl, hB⟩

end Go.Proofs.Ytkhpbcdjmcpgdaa.Iso
