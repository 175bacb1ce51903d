/-
  The document's own Decode and Encode of layer 3.
-/
import Derived.Test.YtpbcienekjnelaaPRef
namespace Go.Proofs.Ytpbcienekjnelaa.Pct
open Go.RowKit
set_option linter.unusedSimpArgs false
set_option linter.unusedVariables false

/-- What told answers at a place, and how decoding goes on from there. -/
theorem refTold_any (s : ByteArray) (hs : s.size ≤ maxLen) (k : Nat) (hk : k < s.size) :
    (decode (s.data.toList.drop k) = s[k] :: decode (s.data.toList.drop (k + 1)) ∧ ∀ w, Calls Try.prog 23 #[.string s, .int .i64 (k : Int)] w fun e w' => e = .returned (.int .i64 (-1)) ∧ w = w') ∨
    (k + 3 ≤ s.size ∧ ∃ x : UInt8, decode (s.data.toList.drop k) = x :: decode (s.data.toList.drop (k + 3)) ∧ ∀ w, Calls Try.prog 23 #[.string s, .int .i64 (k : Int)] w fun e w' => e = .returned (.int .i64 (x.toNat : Int)) ∧ w = w') := by
  have e0 := drop_cons s k hk
  by_cases h37 : s[k] = 37
  · have t37 : ((s[k].toNat : Int) != 37) = false := by rw [ne37, h37]; rfl
    by_cases h3 : k + 2 < s.size
    · have e1 : s.data.toList.drop k = s[k] :: s[k + 1] :: s[k + 2] :: s.data.toList.drop (k + 3) := by
        rw [e0, drop_cons s (k + 1) (by omega), drop_cons s (k + 2) (by omega)]
      have b1 := hexI_le (s[k + 1].toNat : Int)
      have b2 := hexI_le (s[k + 2].toNat : Int)
      by_cases hb : hexB s[k + 1] = true ∧ hexB s[k + 2] = true
      · have g1 : 0 ≤ Ascii.hexI (s[k + 1].toNat : Int) := by simpa [hexB] using hb.1
        have g2 : 0 ≤ Ascii.hexI (s[k + 2].toNat : Int) := by simpa [hexB] using hb.2
        have ht : told (s[k] :: s[k + 1] :: s[k + 2] :: s.data.toList.drop (k + 3)) = some (UInt8.ofNat (16 * hexN s[k + 1] + hexN s[k + 2])) := by rw [told_cons, if_pos ⟨h37, hb⟩]
        refine .inr ⟨by omega, UInt8.ofNat (16 * hexN s[k + 1] + hexN s[k + 2]), ?_, fun w => ?_⟩
        · rw [e1, decode_some ht]
          rfl
        · have ev : ((UInt8.ofNat (16 * hexN s[k + 1] + hexN s[k + 2])).toNat : Int) = 16 * Ascii.hexI (s[k + 1].toNat : Int) + Ascii.hexI (s[k + 2].toNat : Int) := by
            rw [ofNat_toNat _ (by unfold hexN; omega)]
            unfold hexN
            omega
          rw [ev]
          exact refTold_in s hs k h3 t37 _ _ _ (Lib.hid rfl) (Lib.hid rfl) b1.1 b2.1 b1.2 b2.2 (.inr (.inr ⟨decide_eq_false (by omega), decide_eq_false (by omega), rfl⟩)) w
      · have ht : told (s[k] :: s.data.toList.drop (k + 1)) = none := by
          rw [← e0, e1, told_cons, if_neg (fun h => hb h.2)]
        refine .inl ⟨by rw [e0, decode_none ht], fun w => refTold_in s hs k h3 t37 _ _ _ (Lib.hid rfl) (Lib.hid rfl) b1.1 b2.1 b1.2 b2.2 ?_ w⟩
        by_cases g1 : Ascii.hexI (s[k + 1].toNat : Int) < 0
        · exact .inl ⟨by simpa using g1, rfl⟩
        · have g2 : hexB s[k + 1] = true := by simpa [hexB] using g1
          have g3 : ¬ hexB s[k + 2] = true := fun h => hb ⟨g2, h⟩
          exact .inr (.inl ⟨by simpa using g1, by simpa [hexB] using g3, rfl⟩)
    · have ht : told (s[k] :: s.data.toList.drop (k + 1)) = none := by
        have hl : (s.data.toList.drop (k + 1)).length < 2 := by
          rw [List.length_drop]
          show s.size - (k + 1) < 2
          omega
        match hd : s.data.toList.drop (k + 1), hl with
        | [], _ => rfl
        | [_], _ => rfl
        | _ :: _ :: _, hl => simp at hl; omega
      exact .inl ⟨by rw [e0, decode_none ht], fun w => refTold_other s hs k hk (.inr ⟨t37, by simp; omega⟩) w⟩
  · have t37 : ((s[k].toNat : Int) != 37) = true := by rw [ne37]; simpa using h37
    exact .inl ⟨by rw [e0, decode_other h37], fun w => refTold_other s hs k hk (.inl t37) w⟩

set_option maxRecDepth 100000 in
set_option maxHeartbeats 4000000 in
theorem refDecode_any (s : ByteArray) (hs : s.size ≤ 1000000) (w : World) :
    Calls Try.prog 17 #[.string s] w fun e w' => e = .returned (.string ⟨(decode s.data.toList).toArray⟩) ∧ Below w.heap.size w w' := by
  obtain ⟨i0, hi, hz0, hz1, hz2⟩ := info_parts Try.infoByte
  go_enter Try.func17, Try.ntmps17
  go_wp2
  go_loopw [3, 4, 5] (fun v i _ wr => ∃ (k : Nat) (l : List UInt8), k ≤ s.size ∧ i = .int .i64 k ∧ wr.ownsRow w.heap.size 5 1 v l.length (l.map Ascii.u8v) ∧ Hid (decode s.data.toList = l ++ decode (s.data.toList.drop k)) ∧ l.length ≤ k ∧ Below w.heap.size w wr) (fun _ i _ _ => s.size - (intOf i).toNat)
  case atStart => exact ⟨0, [], Nat.zero_le _, rfl, ⟨rfl, .inl ⟨rfl, rfl⟩⟩, Lib.hid rfl, Nat.zero_le _, Below.refl _ _⟩
  case round =>
    obtain ⟨k, l, hk, rfl, hrow, hdec, hlk, hB⟩ := hrel
    by_cases hlt : k < s.size
    · have hb2 : l.length + 1 ≤ maxLen := by unfold maxLen; omega
      have hb3 : (l.length + 1) * 1 ≤ 140737488355328 := by omega
      have hsz := hB.size
      rcases refTold_any s (by unfold maxLen; omega) k hlt with ⟨hd, hc⟩ | ⟨hk3, x, hd, hc⟩
      · have hnext := Lib.hid (show decode s.data.toList = (l ++ [s[k]]) ++ decode (s.data.toList.drop (k + 1)) by rw [hdec.out, hd]; simp)
        clear hd
        have hsz1 : w.heap.size ≤ (wr.alloc (.cells #[.int .u8 (s[k].toNat : Int)] 5)).heap.size := by simp; omega
        have hone : ∀ u ∈ [Value.int .u8 (s[k].toNat : Int)], u.oneCell' = true := by simp [Value.oneCell']
        have HO := Lib.hid hone
        clear hone
        go_wp2_with (first | (go_at_call 23; refine (hc _).mono ?_; rintro e w' ⟨rfl, rfl⟩) | (at_builtin; refine wpList_append_own _ rfl _ _ 30 rfl w.heap.size 5 i0 (.int .u8 0) 1 1 Try.underlying30 hi hz0 hz1 hz2 rfl (by decide) _ _ _ rfl (hrow.alloc _) ⟨wr.heap.size, 0, none⟩ 1 1 [.int .u8 (s[k].toNat : Int)] rfl rfl (cell_one_new _ _ _) HO.out hb2 hb3 hsz1 ?_; intro v' w2 hown' hgrow _))
        go_roundw
        case rel => exact ⟨k + 1, l ++ [s[k]], by omega, by go_num, by simpa [Ascii.u8v] using hown', hnext, by simp; omega, (hB.alloc hB.size _).trans (grown_below (hrow.alloc _) hsz1 hgrow)⟩
        case measure => simp [intOf]; omega
      · have hnext := Lib.hid (show decode s.data.toList = (l ++ [x]) ++ decode (s.data.toList.drop (k + 3)) by rw [hdec.out, hd]; simp)
        clear hd
        have hx := x.toNat_lt
        have hsz1 : w.heap.size ≤ (wr.alloc (.cells #[.int .u8 (x.toNat : Int)] 5)).heap.size := by simp; omega
        have hone : ∀ u ∈ [Value.int .u8 (x.toNat : Int)], u.oneCell' = true := by simp [Value.oneCell']
        have HO := Lib.hid hone
        clear hone
        go_wp2_with (first | (go_at_call 23; refine (hc _).mono ?_; rintro e w' ⟨rfl, rfl⟩) | (at_builtin; refine wpList_append_own _ rfl _ _ 30 rfl w.heap.size 5 i0 (.int .u8 0) 1 1 Try.underlying30 hi hz0 hz1 hz2 rfl (by decide) _ _ _ rfl (hrow.alloc _) ⟨wr.heap.size, 0, none⟩ 1 1 [.int .u8 (x.toNat : Int)] rfl rfl (cell_one_new _ _ _) HO.out hb2 hb3 hsz1 ?_; intro v' w2 hown' hgrow _))
        go_roundw
        case rel => exact ⟨k + 3, l ++ [x], by omega, by go_num, by simpa [Ascii.u8v] using hown', hnext, by simp; omega, (hB.alloc hB.size _).trans (grown_below (hrow.alloc _) hsz1 hgrow)⟩
        case measure => simp [intOf]; omega
    · obtain rfl : k = s.size := by omega
      have hend := Lib.hid (show decode s.data.toList = l by rw [hdec.out, List.drop_of_length_le (by exact Nat.le_refl _), decode_nil, List.append_nil])
      have hcv := Ascii.conv_owned hrow
      go_wp2
      go_ret
      exact ⟨by rw [hend.out]; rfl, hB⟩

theorem wrap_u8_16 : ∀ n : Fin 16, IntKind.u8.wrap (n.val : Int) = (n.val : Int) := by decide +kernel
theorem wrap_u8 (n : Nat) (h : n < 16) : IntKind.u8.wrap (n : Int) = (n : Int) := wrap_u8_16 ⟨n, h⟩

set_option maxRecDepth 100000 in
set_option maxHeartbeats 4000000 in
theorem refEncode_any (s : ByteArray) (hs : s.size ≤ 1000000) (set : Int) (w : World) :
    Calls Try.prog 15 #[.string s, .int .i64 set] w fun e w' => e = .returned (.string ⟨(encode set s.data.toList).toArray⟩) ∧ Below w.heap.size w w' := by
  obtain ⟨i0, hi, hz0, hz1, hz2⟩ := info_parts Try.infoByte
  go_enter Try.func15, Try.ntmps15
  go_wp2
  go_loopw [6, 7, 8] (fun v i _ wr => ∃ k : Nat, k ≤ s.size ∧ i = .int .i64 k ∧ wr.ownsRow w.heap.size 5 1 v (encode set (s.data.toList.take k)).length ((encode set (s.data.toList.take k)).map Ascii.u8v) ∧ Below w.heap.size w wr) (fun _ i _ _ => s.size - (intOf i).toNat)
  case atStart => exact ⟨0, Nat.zero_le _, rfl, ⟨rfl, .inl ⟨rfl, rfl⟩⟩, Below.refl _ _⟩
  case round =>
    obtain ⟨k, hk, rfl, hrow, hB⟩ := hrel
    by_cases hlt : k < s.size
    · have hlen : (encode set (s.data.toList.take k)).length + 3 ≤ 140737488355328 := by
        have h1 := encode_len set (s.data.toList.take k)
        have h2 : (s.data.toList.take k).length ≤ k := List.length_take_le _ _
        omega
      have hcall := refIn_any set s[k] wr
      have hnext := Lib.hid (show encode set (s.data.toList.take (k + 1)) = encode set (s.data.toList.take k) ++ enc1 set s[k] by rw [Ascii.take_snoc s k hlt, encode_snoc])
      generalize encode set (s.data.toList.take k) = l at hrow hnext hlen
      have hsz := hB.size
      cases hd : inB set s[k]
      · rw [hd] at hcall
        have henc := Lib.hid (show enc1 set s[k] = [s[k]] by unfold enc1; rw [hd]; rfl)
        clear hd
        have hb2 : l.length + 1 ≤ maxLen := by unfold maxLen; omega
        have hb3 : (l.length + 1) * 1 ≤ 140737488355328 := by omega
        have hsz1 : w.heap.size ≤ (wr.alloc (.cells #[.int .u8 (s[k].toNat : Int)] 5)).heap.size := by simp; omega
        have hone : ∀ u ∈ [Value.int .u8 (s[k].toNat : Int)], u.oneCell' = true := by simp [Value.oneCell']
        have HO := Lib.hid hone
        clear hone
        go_wp2_with (first | (go_at_call 11; refine hcall.mono ?_; rintro e w' ⟨rfl, rfl⟩) | (at_builtin; refine wpList_append_own _ rfl _ _ 30 rfl w.heap.size 5 i0 (.int .u8 0) 1 1 Try.underlying30 hi hz0 hz1 hz2 rfl (by decide) _ _ _ rfl (hrow.alloc _) ⟨wr.heap.size, 0, none⟩ 1 1 [.int .u8 (s[k].toNat : Int)] rfl rfl (cell_one_new _ _ _) HO.out hb2 hb3 hsz1 ?_; intro v' w2 hown' hgrow _))
        go_roundw
        case rel => exact ⟨k + 1, by omega, by go_num, by rw [hnext.out, henc.out]; simpa [Ascii.u8v] using hown', (hB.alloc hB.size _).trans (grown_below (hrow.alloc _) hsz1 hgrow)⟩
        case measure => simp [intOf]; omega
      · rw [hd] at hcall
        have henc := Lib.hid (show enc1 set s[k] = [37, hexC (s[k].toNat / 16), hexC (s[k].toNat % 16)] by unfold enc1; rw [hd]; rfl)
        clear hd
        go_wp2_with ((go_at_call 11; refine hcall.mono ?_; rintro e w' ⟨rfl, rfl⟩))
        have hx255 := s[k].toNat_lt
        have kI : (k : Int) < s.size := by omega
        obtain ⟨lo, hlo⟩ : ∃ n : Nat, n = s[k].toNat % 16 := ⟨_, rfl⟩
        obtain ⟨up, hup⟩ : ∃ n : Nat, n = s[k].toNat / 16 := ⟨_, rfl⟩
        have l16 : lo < 16 := by omega
        have u16 : up < 16 := by omega
        have l16i : (lo : Int) < 16 := by omega
        have u16i : (up : Int) < 16 := by omega
        have erem : (s[k].toNat : Int) % 16 = (lo : Int) := by omega
        have equo : (s[k].toNat : Int) / 16 = (up : Int) := by omega
        have trem : (s[k].toNat : Int).tmod 16 = (lo : Int) := by rw [Int.tmod_eq_emod_of_nonneg (by omega)]; exact erem
        have tquo : (s[k].toNat : Int).tdiv 16 = (up : Int) := by rw [Int.tdiv_eq_ediv_of_nonneg (by omega)]; exact equo
        have wup : IntKind.u8.wrap (up : Int) = (up : Int) := wrap_u8 up (by omega)
        have wlo : IntKind.u8.wrap (lo : Int) = (lo : Int) := wrap_u8 lo (by omega)
        have HLO := Lib.hid hlo
        have HUP := Lib.hid hup
        clear hlo hup
        have hrow3 : (wr.alloc (.cells #[.int .u8 37, .int .u8 (((⟨#[48, 49, 50, 51, 52, 53, 54, 55, 56, 57, 65, 66, 67, 68, 69, 70]⟩ : ByteArray)[up]'u16).toNat : Int), .int .u8 (((⟨#[48, 49, 50, 51, 52, 53, 54, 55, 56, 57, 65, 66, 67, 68, 69, 70]⟩ : ByteArray)[lo]'l16).toNat : Int)] 5)).drew.ownsRow w.heap.size 5 1 u6 l.length (l.map Ascii.u8v) := hrow.alloc _
        have hb2 : l.length + 3 ≤ maxLen := by unfold maxLen; omega
        have hb3 : (l.length + 3) * 1 ≤ 140737488355328 := by omega
        have hsz3 : w.heap.size ≤ (wr.alloc (.cells #[.int .u8 37, .int .u8 (((⟨#[48, 49, 50, 51, 52, 53, 54, 55, 56, 57, 65, 66, 67, 68, 69, 70]⟩ : ByteArray)[up]'u16).toNat : Int), .int .u8 (((⟨#[48, 49, 50, 51, 52, 53, 54, 55, 56, 57, 65, 66, 67, 68, 69, 70]⟩ : ByteArray)[lo]'l16).toNat : Int)] 5)).drew.heap.size := by simp [World.drew]; omega
        have hone : ∀ u ∈ ([.int .u8 37, .int .u8 (((⟨#[48, 49, 50, 51, 52, 53, 54, 55, 56, 57, 65, 66, 67, 68, 69, 70]⟩ : ByteArray)[up]'u16).toNat : Int), .int .u8 (((⟨#[48, 49, 50, 51, 52, 53, 54, 55, 56, 57, 65, 66, 67, 68, 69, 70]⟩ : ByteArray)[lo]'l16).toNat : Int)] : List Value), u.oneCell' = true := by simp [Value.oneCell']
        have HO := Lib.hid hone
        clear hone
        go_region_law (refine step_append_lies _ rfl _ _ 30 rfl w.heap.size 5 i0 (.int .u8 0) 1 1 Try.underlying30 hi hz0 hz1 hz2 rfl (by decide) _ _ _ rfl hrow3 ⟨wr.heap.size, 0, none⟩ 3 3 [.int .u8 37, .int .u8 (((⟨#[48, 49, 50, 51, 52, 53, 54, 55, 56, 57, 65, 66, 67, 68, 69, 70]⟩ : ByteArray)[up]'u16).toNat : Int), .int .u8 (((⟨#[48, 49, 50, 51, 52, 53, 54, 55, 56, 57, 65, 66, 67, 68, 69, 70]⟩ : ByteArray)[lo]'l16).toNat : Int)] rfl rfl (cell_three_new wr _ _ _ 5) HO.out (by decide) hb2 hb3 hsz3 _ rfl ?_; intro g cap w2 hown' hgrow _ _)
        all_goals
          go_wp2
          go_roundw
          case rel =>
            refine ⟨k + 1, by omega, by go_num, ?_, ?_⟩
            · rw [hnext.out, henc.out, ← HLO.out, ← HUP.out, ← digits_at ⟨up, u16⟩, ← digits_at ⟨lo, l16⟩]
              simpa [Ascii.u8v] using hown'
            · have h1 := hB.alloc hB.size (.cells #[.int .u8 37, .int .u8 (((⟨#[48, 49, 50, 51, 52, 53, 54, 55, 56, 57, 65, 66, 67, 68, 69, 70]⟩ : ByteArray)[up]'u16).toNat : Int), .int .u8 (((⟨#[48, 49, 50, 51, 52, 53, 54, 55, 56, 57, 65, 66, 67, 68, 69, 70]⟩ : ByteArray)[lo]'l16).toNat : Int)] 5)
              have h2 : Below w.heap.size w (wr.alloc (.cells #[.int .u8 37, .int .u8 (((⟨#[48, 49, 50, 51, 52, 53, 54, 55, 56, 57, 65, 66, 67, 68, 69, 70]⟩ : ByteArray)[up]'u16).toNat : Int), .int .u8 (((⟨#[48, 49, 50, 51, 52, 53, 54, 55, 56, 57, 65, 66, 67, 68, 69, 70]⟩ : ByteArray)[lo]'l16).toNat : Int)] 5)).drew := ⟨h1.os, h1.tape, h1.output, h1.size, h1.block⟩
              exact h2.trans (grown_below hrow3 hsz3 hgrow)
          case measure => simp [intOf]; omega
    · obtain rfl : k = s.size := by omega
      have hend := Lib.hid (show encode set (s.data.toList.take s.size) = encode set s.data.toList by rw [List.take_of_length_le (by exact Nat.le_refl _)])
      have hcv := Ascii.conv_owned hrow
      go_wp2
      go_ret
      exact ⟨by rw [← hend.out]; rfl, hB⟩

end Go.Proofs.Ytpbcienekjnelaa.Pct
