/-
  utf8.AppendRune at the numbers of bytes; Wide(s).
-/
import Derived.Test.YtkhpbcdjmcpgdaaISmall
import Derived.OwnWalk
import Derived.Maps.AppendAt
namespace Go.Proofs.Ytkhpbcdjmcpgdaa.Iso
open Go.RowKit
set_option linter.unusedSimpArgs false
set_option linter.unusedVariables false

theorem Try.infoByte : (Try.prog.info? 5).map (fun i => (i.zero, i.size, i.bytes)) = some (some (.int .u8 0), 1, 1) := by kernel_rfl
def u8v (x : UInt8) : Value := .int .u8 (x.toNat : Int)
/-- A slice of bytes that the call owns, as a text. -/
theorem conv_owned {W : World} {base : Nat} {v : Value} {k : Nat} {l : List UInt8} (h : W.ownsRow base 5 1 v k (l.map u8v)) : (convert 29 9 v).run Try.prog W = .ok (.string ⟨l.toArray⟩) W := by
  have hl : l.length = k := by simpa using h.1
  rcases h.2 with ⟨rfl, rfl⟩ | ⟨g, cap, cur, rfl, _, hg, _, _, hcs, htk⟩
  · obtain rfl : l = [] := List.length_eq_zero_iff.1 hl
    exact run_convert_bytes_nil W 29 5 Try.underlying29 Try.underlying5 0 0 9 Try.underlying9
  · subst hl
    refine run_convert_bytes_back W 29 9 5 ⟨g, 0, none⟩ cap l Try.underlying29 Try.underlying5 Try.underlying9 ?_
    intro j hj
    have e : (⟨g, 0, none⟩ : Addr).add j = ⟨g, j, none⟩ := by unfold Addr.add; split <;> simp_all
    rw [e]
    have h1 : cur[j]? = some (u8v l[j]) := by
      have h2 : (cur.toList.take (l.length * 1))[j]? = (l.map u8v)[j]? := by rw [htk]
      rw [List.getElem?_take_of_lt (by omega), List.getElem?_map, List.getElem?_eq_getElem hj] at h2
      simpa using h2
    simp [World.cell?, hg, h1, u8v]
theorem grown_below {W w2 : World} {base : Nat} {v : Value} {k : Nat} {xs : List Value} (hrow : W.ownsRow base 5 1 v k xs) (hb : base ≤ W.heap.size) (hgrow : W.grownBy w2 v.ownBlock) : Below base W w2 := by
  refine (Below.refl base W).grown hgrow hb fun j ej => ?_
  rcases hrow.2 with ⟨rfl, _⟩ | ⟨g, cap, cur, rfl, hb, _, _⟩
  · simp [Value.ownBlock] at ej
  · obtain rfl : g = j := by simpa [Value.ownBlock] using ej
    exact hb

/-- Two values in a new block. -/
theorem cell_two (w : World) (x y : Value) (t : TypeId) : ∀ j u, [x, y][j]? = some u → (w.alloc (.cells #[x, y] t)).cell? ((⟨w.heap.size, 0, none⟩ : Addr).add j) = some u := by
  intro j u hj
  have e : (⟨w.heap.size, 0, none⟩ : Addr).add j = ⟨w.heap.size, j, none⟩ := by unfold Addr.add; split <;> simp_all
  rw [e, World.cell?_alloc_at _ _ _ _ rfl]
  simpa using hj

/-- What AppendRune answers: the row with the byte's character behind it. -/
def RunePost (base : Nat) (l news : List UInt8) (w : World) (e : Ending) (w' : World) : Prop :=
  ∃ v', e = .returned v' ∧ w'.ownsRow base 5 1 v' (l ++ news).length ((l ++ news).map u8v) ∧ Below base w w'

set_option maxHeartbeats 1000000 in
theorem rune_two (base : Nat) (v : Value) (l : List UInt8) (x : UInt8) (hx : ¬ x.toNat < 128) (w : World) (hown : w.ownsRow base 5 1 v l.length (l.map u8v)) (hlen : l.length + 2 ≤ 140737488355328) (hbase : base ≤ w.heap.size) :
    Calls Try.prog 20 #[v, .int .i32 (x.toNat : Int)] w (RunePost base l (wid1 x) w) := by
  obtain ⟨i0, hi, hz0, hz1, hz2⟩ := info_parts Try.infoByte
  obtain ⟨r, hr⟩ : ∃ r : Int, r = (x.toNat : Int) := ⟨_, rfl⟩
  have lx := x.toNat_lt
  have h0 : 128 ≤ r := by omega
  have h1 : r ≤ 255 := by omega
  have hv := Lib.hid (show (wid1 x).map u8v = [.int .u8 (192 + r / 64), .int .u8 (128 + r % 64)] by
    rw [wid1_high hx, hr]
    simp only [List.map_cons, List.map_nil, u8v]
    rw [ofNat_toNat _ (by omega), ofNat_toNat _ (by omega)]
    simp)
  have hl2 := Lib.hid (show (wid1 x).length = 2 by rw [wid1_high hx]; rfl)
  rw [← hr]
  clear hr hx lx
  have hone : ∀ u ∈ ([.int .u8 (192 + r / 64), .int .u8 (128 + r % 64)] : List Value), u.oneCell' = true := by simp [Value.oneCell']
  have HO := Lib.hid hone
  clear hone
  have hb2 : l.length + 2 ≤ maxLen := by unfold maxLen; omega
  have hb3 : (l.length + 2) * 1 ≤ 140737488355328 := by omega
  have hsz : base ≤ (w.alloc (.cells #[.int .u8 (192 + r / 64), .int .u8 (128 + r % 64)] 5)).heap.size := by simp; omega
  go_enter Try.func20, Try.ntmps20
  go_wp2_with (at_builtin; refine wpList_append_own _ rfl _ _ 29 rfl base 5 i0 (.int .u8 0) 1 1 Try.underlying29 hi hz0 hz1 hz2 rfl (by decide) _ _ _ rfl (hown.alloc _) ⟨w.heap.size, 0, none⟩ 2 2 [.int .u8 (192 + r / 64), .int .u8 (128 + r % 64)] rfl rfl (cell_two _ _ _ _) HO.out hb2 hb3 hsz ?_; intro v' w2 hown' hgrow _)
  go_ret
  refine ⟨_, rfl, ?_, ((Below.refl _ _).alloc hbase _).trans (grown_below (hown.alloc _) (by simp; omega) hgrow)⟩
  rw [List.length_append, List.map_append, hv.out, hl2.out]
  exact hown'

set_option maxHeartbeats 1000000 in
theorem rune_any (base : Nat) (v : Value) (l : List UInt8) (x : UInt8) (w : World) (hown : w.ownsRow base 5 1 v l.length (l.map u8v)) (hlen : l.length + 2 ≤ 140737488355328) (hbase : base ≤ w.heap.size) :
    Calls Try.prog 19 #[v, .int .i32 (x.toNat : Int)] w (RunePost base l (wid1 x) w) := by
  obtain ⟨i0, hi, hz0, hz1, hz2⟩ := info_parts Try.infoByte
  have lx := x.toNat_lt
  by_cases hx : x.toNat < 128
  · have hv := Lib.hid (wid1_low hx)
    have t : decide ((x.toNat : Int) ≤ 127) = true := by simp; omega
    have hone : ∀ u ∈ [Value.int .u8 (x.toNat : Int)], u.oneCell' = true := by simp [Value.oneCell']
    have HO := Lib.hid hone
    clear hone
    have hb2 : l.length + 1 ≤ maxLen := by unfold maxLen; omega
    have hb3 : (l.length + 1) * 1 ≤ 140737488355328 := by omega
    have hsz : base ≤ (w.alloc (.cells #[.int .u8 (x.toNat : Int)] 5)).heap.size := by simp; omega
    go_enter Try.func19, Try.ntmps19
    go_wp2_with (at_builtin; refine wpList_append_own _ rfl _ _ 29 rfl base 5 i0 (.int .u8 0) 1 1 Try.underlying29 hi hz0 hz1 hz2 rfl (by decide) _ _ _ rfl (hown.alloc _) ⟨w.heap.size, 0, none⟩ 1 1 [.int .u8 (x.toNat : Int)] rfl rfl (cell_one_new _ _ _) HO.out hb2 hb3 hsz ?_; intro v' w2 hown' hgrow _)
    go_ret
    refine ⟨_, rfl, ?_, ((Below.refl _ _).alloc hbase _).trans (grown_below (hown.alloc _) (by simp; omega) hgrow)⟩
    rw [hv.out]
    simpa [u8v] using hown'
  · have t : decide ((x.toNat : Int) ≤ 127) = false := by simp; omega
    have hc := rune_two base v l x hx w hown hlen hbase
    go_enter Try.func19, Try.ntmps19
    go_wp2_with (go_at_call 20; refine hc.mono ?_; rintro e w' ⟨v', rfl, hown', hB⟩)
    go_ret
    exact ⟨_, rfl, hown', hB⟩

set_option maxRecDepth 100000 in
set_option maxHeartbeats 4000000 in
theorem wide_any (s : ByteArray) (hs : s.size ≤ 1000000) (w : World) :
    Calls Try.prog 13 #[.string s] w fun e w' => e = .returned (.string ⟨(wide s.data.toList).toArray⟩) ∧ Below w.heap.size w w' := by
  obtain ⟨i0, hi, hz0, hz1, hz2⟩ := info_parts Try.infoByte
  go_enter Try.func13, Try.ntmps13
  go_wp2_with (at_make; refine wpList_make_own _ rfl _ _ 29 rfl w.heap.size 5 i0 (.int .u8 0) 1 Try.underlying29 hi hz0 hz1 .i64 .i64 _ s.size rfl rfl rfl (by rw [hz2]; omega) (by unfold maxLen; omega) (Nat.le_refl _) ?_; intro w1 hown0 hg0)
  have hB1 : Below w.heap.size w w1 := (Below.refl _ w).grown hg0 (Nat.le_refl _) (fun j e => by cases e)
  go_loopw [3, 4, 10] (fun v _ i wr => ∃ k : Nat, k ≤ s.size ∧ i = .int .i64 k ∧ wr.ownsRow w.heap.size 5 1 v (wide (s.data.toList.take k)).length ((wide (s.data.toList.take k)).map u8v) ∧ Below w.heap.size w wr) (fun _ _ i _ => s.size - (intOf i).toNat)
  case atStart => exact ⟨0, Nat.zero_le _, rfl, hown0, hB1⟩
  case round =>
    obtain ⟨k, hk, rfl, hrow, hB⟩ := hrel
    by_cases hlt : k < s.size
    · have hlen : (wide (s.data.toList.take k)).length + 2 ≤ 140737488355328 := by
        have h1 := wide_len (s.data.toList.take k)
        have h2 : (s.data.toList.take k).length ≤ k := List.length_take_le _ _
        omega
      have hnext := Lib.hid (show wide (s.data.toList.take (k + 1)) = wide (s.data.toList.take k) ++ wid1 s[k] by rw [take_snoc s k hlt, wide_snoc])
      generalize wide (s.data.toList.take k) = l at hrow hnext hlen
      have lx := s[k].toNat_lt
      have hc := rune_any w.heap.size _ l s[k] wr hrow hlen hB.size
      go_wp2_with (go_at_call 19; refine hc.mono ?_; rintro e w2 ⟨v', rfl, hown', hB2⟩)
      go_roundw
      case rel => exact ⟨k + 1, by omega, by go_num, by rw [hnext.out]; exact hown', hB.trans hB2⟩
      case measure => simp [intOf]; omega
    · obtain rfl : k = s.size := by omega
      have hend := Lib.hid (show wide (s.data.toList.take s.size) = wide s.data.toList by rw [List.take_of_length_le (by exact Nat.le_refl _)])
      have hcv := conv_owned hrow
      go_wp2
      go_ret
      exact ⟨by rw [← hend.out]; rfl, hB⟩

end Go.Proofs.Ytkhpbcdjmcpgdaa.Iso
