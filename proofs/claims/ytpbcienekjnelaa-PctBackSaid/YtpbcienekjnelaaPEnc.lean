/-
  Encode(s, set).
-/
import Derived.Test.YtpbcienekjnelaaPDec
import Derived.Deep.RegionWith
import Derived.BigRegion
namespace Go.Proofs.Ytpbcienekjnelaa.Pct
open Go.RowKit
set_option linter.unusedSimpArgs false
set_option linter.unusedVariables false

def digitsL : List UInt8 := [48, 49, 50, 51, 52, 53, 54, 55, 56, 57, 65, 66, 67, 68, 69, 70]
def hexC (n : Nat) : UInt8 := digitsL.getD n 0
/-- What stands in place of a byte. -/
def enc1 (set : Int) (c : UInt8) : List UInt8 := if inB set c then [37, hexC (c.toNat / 16), hexC (c.toNat % 16)] else [c]
def encode (set : Int) (l : List UInt8) : List UInt8 := l.flatMap (enc1 set)

theorem enc1_len (set : Int) (c : UInt8) : (enc1 set c).length ≤ 3 := by unfold enc1; split <;> simp
theorem encode_len (set : Int) (l : List UInt8) : (encode set l).length ≤ 3 * l.length := by
  unfold encode
  induction l with
  | nil => simp
  | cons a l ih => have := enc1_len set a; simp at *; omega
theorem encode_snoc (set : Int) (l : List UInt8) (c : UInt8) : encode set (l ++ [c]) = encode set l ++ enc1 set c := by
  unfold encode; simp

/-- What put answers where three bytes lie in a new block. -/
def Put3Post (base : Nat) (l : List UInt8) (a b c : UInt8) (w : World) (e : Ending) (w' : World) : Prop :=
  ∃ v', e = .returned v' ∧ w'.ownsRow base 5 1 v' (l ++ [a, b, c]).length ((l ++ [a, b, c]).map Ascii.u8v) ∧ Below base w w'
theorem cell_three_new (w : World) (x y z : Value) (t : TypeId) : ∀ j u, [x, y, z][j]? = some u → (w.alloc (.cells #[x, y, z] t)).drew.cell? ((⟨w.heap.size, 0, none⟩ : Addr).add j) = some u := by
  intro j u hj
  have hlt : j < 3 := by
    have := (List.getElem?_eq_some_iff.1 hj).1
    simpa using this
  have e : (⟨w.heap.size, 0, none⟩ : Addr).add j = ⟨w.heap.size, j, none⟩ := by unfold Addr.add; split <;> simp_all
  rw [e]
  show (w.alloc (.cells #[x, y, z] t)).cell? ⟨w.heap.size, j, none⟩ = some u
  rw [World.cell?_alloc_at _ _ _ _ rfl]
  simpa using hj
theorem put3 (base : Nat) (v : Value) (l : List UInt8) (W : World) (b c : UInt8) (hown : W.ownsRow base 5 1 v l.length (l.map Ascii.u8v)) (hlen : l.length + 3 ≤ 140737488355328) (hbase : base ≤ W.heap.size) :
    Calls Try.prog 21 #[v, .slice (some ⟨W.heap.size, 0, none⟩) 3 3] (W.alloc (.cells #[.int .u8 37, .int .u8 (b.toNat : Int), .int .u8 (c.toNat : Int)] 5)).drew (Put3Post base l 37 b c W) := by
  have hrow : (W.alloc (.cells #[.int .u8 37, .int .u8 (b.toNat : Int), .int .u8 (c.toNat : Int)] 5)).drew.ownsRow base 5 1 v l.length (l.map Ascii.u8v) := hown.alloc _
  refine (put_any base v l ⟨W.heap.size, 0, none⟩ 3 3 [37, b, c] _ hrow rfl (cell_three_new W _ _ _ 5) hlen (by simp [World.drew]; omega)).mono ?_
  rintro e w' ⟨v', he, hr, hB⟩
  refine ⟨v', he, hr, ?_⟩
  have h1 : Below base W (W.alloc (.cells #[.int .u8 37, .int .u8 (b.toNat : Int), .int .u8 (c.toNat : Int)] 5)).drew := by
    have := (Below.refl base W).alloc hbase (.cells #[.int .u8 37, .int .u8 (b.toNat : Int), .int .u8 (c.toNat : Int)] 5)
    exact ⟨this.os, this.tape, this.output, this.size, this.block⟩
  exact h1.trans hB
theorem digits_at : ∀ n : Fin 16, (⟨#[48, 49, 50, 51, 52, 53, 54, 55, 56, 57, 65, 66, 67, 68, 69, 70]⟩ : ByteArray)[n.val]'(n.isLt) = hexC n.val := by decide +kernel

theorem bits_and256 : ∀ x : Fin 256, bits .and .u8 ((x.val : Nat) : Int) 15 = ((x.val % 16 : Nat) : Int) := by decide +kernel
theorem bits_and (x : UInt8) : bits .and .u8 (x.toNat : Int) 15 = ((x.toNat % 16 : Nat) : Int) := bits_and256 ⟨x.toNat, x.toNat_lt⟩

set_option maxRecDepth 100000 in
set_option maxHeartbeats 4000000 in
theorem encode_any (s : ByteArray) (hs : s.size ≤ 1000000) (set : Int) (w : World) :
    Calls Try.prog 14 #[.string s, .int .i64 set] w fun e w' => e = .returned (.string ⟨(encode set s.data.toList).toArray⟩) ∧ Below w.heap.size w w' := by
  obtain ⟨i0, hi, hz0, hz1, hz2⟩ := info_parts Try.infoByte
  go_enter Try.func14, Try.ntmps14
  go_wp2_with fail
  refine (member_any set w).mono ?_
  rintro e w1 ⟨g, lb, rfl, eg, ht, hB0⟩
  unfold Enters at eg
  go_wp2_with (at_make; refine wpList_make_own _ rfl _ _ 30 rfl w1.heap.size 5 i0 (.int .u8 0) 1 Try.underlying30 hi hz0 hz1 .i64 .i64 _ s.size rfl rfl rfl (by rw [hz2]; omega) (by unfold maxLen; omega) (Nat.le_refl _) ?_; intro w2 hown0 hg0)
  have hB1 : Below w1.heap.size w1 w2 := (Below.refl _ w1).grown hg0 (Nat.le_refl _) (fun j e => by cases e)
  go_loopw [6, 7, 8, 16] (fun v _ _ i wr => ∃ k : Nat, k ≤ s.size ∧ i = .int .i64 k ∧ wr.ownsRow w1.heap.size 5 1 v (encode set (s.data.toList.take k)).length ((encode set (s.data.toList.take k)).map Ascii.u8v) ∧ Below w1.heap.size w1 wr) (fun _ _ _ i _ => s.size - (intOf i).toNat)
  case atStart => exact ⟨0, Nat.zero_le _, rfl, hown0, hB1⟩
  case round =>
    obtain ⟨k, hk, rfl, hrow, hB⟩ := hrel
    by_cases hlt : k < s.size
    · have hlen : (encode set (s.data.toList.take k)).length + 3 ≤ 140737488355328 := by
        have h1 := encode_len set (s.data.toList.take k)
        have h2 : (s.data.toList.take k).length ≤ k := List.length_take_le _ _
        omega
      obtain ⟨x, hx⟩ : ∃ x, x = s[k] := ⟨_, rfl⟩
      have hcall := ht wr s[k] hB
      have hnext := Lib.hid (show encode set (s.data.toList.take (k + 1)) = encode set (s.data.toList.take k) ++ enc1 set s[k] by rw [Ascii.take_snoc s k hlt, encode_snoc])
      generalize encode set (s.data.toList.take k) = l at hrow hnext hlen
      cases hd : inB set s[k]
      · rw [hd] at hcall
        have henc := Lib.hid (show enc1 set s[k] = [s[k]] by unfold enc1; rw [hd]; rfl)
        clear hd hx
        go_wp2_with (first | (go_at_fn g; refine hcall.mono ?_; rintro e w' ⟨rfl, rfl⟩) | (go_at_call 21; refine (put_any w1.heap.size _ l ⟨wr.heap.size, 0, none⟩ 1 1 [s[k]] _ (hrow.alloc _) rfl (cell_one_new _ _ _) (by omega) (by have := hB.size; simp; omega)).mono ?_; rintro e w3 ⟨v', rfl, hrow3, hB3⟩))
        go_roundw
        case rel => exact ⟨k + 1, by omega, by go_num, by rw [hnext.out, henc.out]; exact hrow3, (hB.alloc hB.size _).trans hB3⟩
        case measure => simp [intOf]; omega
      · rw [hd] at hcall
        have henc := Lib.hid (show enc1 set s[k] = [37, hexC (s[k].toNat / 16), hexC (s[k].toNat % 16)] by unfold enc1; rw [hd]; rfl)
        clear hd hx
        go_wp2_with ((go_at_fn g; refine hcall.mono ?_; rintro e w' ⟨rfl, rfl⟩))
        have hx255 := s[k].toNat_lt
        generalize s[k] = y at *
        obtain ⟨lo, hlo⟩ : ∃ n : Nat, n = y.toNat % 16 := ⟨_, rfl⟩
        obtain ⟨up, hup⟩ : ∃ n : Nat, n = y.toNat / 16 := ⟨_, rfl⟩
        have l16 : lo < 16 := by omega
        have u16 : up < 16 := by omega
        have l16i : (lo : Int) < 16 := by omega
        have u16i : (up : Int) < 16 := by omega
        have eand : bits .and .u8 (y.toNat : Int) 15 = (lo : Int) := by rw [hlo]; exact bits_and y
        have eshr : (y.toNat : Int) / 16 = (up : Int) := by omega
        have HLO := Lib.hid hlo
        have HUP := Lib.hid hup
        clear hlo hup
        go_region_with (go_at_call 21; refine (put3 w1.heap.size _ l wr _ _ hrow (by omega) hB.size).mono ?_; rintro e w3 ⟨v', rfl, hrow3, hB3⟩)
        all_goals
          go_wp2
          go_roundw
          case rel => exact ⟨k + 1, by omega, by go_num, by rw [hnext.out, henc.out, ← HLO.out, ← HUP.out, ← digits_at ⟨up, u16⟩, ← digits_at ⟨lo, l16⟩]; exact hrow3, hB.trans hB3⟩
          case measure => simp [intOf]; omega
    · obtain rfl : k = s.size := by omega
      have hend := Lib.hid (show encode set (s.data.toList.take s.size) = encode set s.data.toList by rw [List.take_of_length_le (by exact Nat.le_refl _)])
      have hcv := Ascii.conv_owned hrow
      go_wp2
      go_ret
      exact ⟨by rw [← hend.out]; rfl, hB0.trans (hB.mono hB0.size)⟩

end Go.Proofs.Ytpbcienekjnelaa.Pct
