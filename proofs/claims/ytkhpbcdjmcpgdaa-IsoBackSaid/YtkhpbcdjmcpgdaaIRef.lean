/-
  The document's own Wide of layer 4.
-/
import Derived.Test.YtkhpbcdjmcpgdaaINarrow
namespace Go.Proofs.Ytkhpbcdjmcpgdaa.Iso
open Go.RowKit
set_option linter.unusedSimpArgs false
set_option linter.unusedVariables false

theorem cell_two_drew (w : World) (x y : Value) (t : TypeId) : ∀ j u, [x, y][j]? = some u → (w.alloc (.cells #[x, y] t)).drew.cell? ((⟨w.heap.size, 0, none⟩ : Addr).add j) = some u :=
  cell_two w x y t

theorem wrap8 : ∀ n : Fin 256, IntKind.u8.wrap (n.val : Int) = (n.val : Int) := by decide +kernel
theorem wrap_u8 (n : Nat) (h : n < 256) : IntKind.u8.wrap (n : Int) = (n : Int) := wrap8 ⟨n, h⟩

set_option maxRecDepth 100000 in
set_option maxHeartbeats 4000000 in
theorem refWide_any (s : ByteArray) (hs : s.size ≤ 1000000) (w : World) :
    Calls Try.prog 14 #[.string s] w fun e w' => e = .returned (.string ⟨(wide s.data.toList).toArray⟩) ∧ Below w.heap.size w w' := by
  obtain ⟨i0, hi, hz0, hz1, hz2⟩ := info_parts Try.infoByte
  go_enter Try.func14, Try.ntmps14
  go_wp2
  go_loopw [3, 4] (fun v i wr => ∃ k : Nat, k ≤ s.size ∧ i = .int .i64 k ∧ wr.ownsRow w.heap.size 5 1 v (wide (s.data.toList.take k)).length ((wide (s.data.toList.take k)).map u8v) ∧ Below w.heap.size w wr) (fun _ i _ => s.size - (intOf i).toNat)
  case atStart => exact ⟨0, Nat.zero_le _, rfl, ⟨rfl, .inl ⟨rfl, rfl⟩⟩, Below.refl _ _⟩
  case round =>
    obtain ⟨k, hk, rfl, hrow, hB⟩ := hrel
    by_cases hlt : k < s.size
    · have hlen : (wide (s.data.toList.take k)).length + 2 ≤ 140737488355328 := by
        have h1 := wide_len (s.data.toList.take k)
        have h2 : (s.data.toList.take k).length ≤ k := List.length_take_le _ _
        omega
      have hnext := Lib.hid (show wide (s.data.toList.take (k + 1)) = wide (s.data.toList.take k) ++ wid1 s[k] by rw [take_snoc s k hlt, wide_snoc])
      generalize wide (s.data.toList.take k) = l at hrow hnext hlen
      have hsz := hB.size
      have lx := s[k].toNat_lt
      have kI : (k : Int) < s.size := by omega
      by_cases hx : s[k].toNat < 128
      · have t : decide ((s[k].toNat : Int) < 128) = true := by simp; omega
        have henc := Lib.hid (wid1_low hx)
        clear hx
        have hb2 : l.length + 1 ≤ maxLen := by unfold maxLen; omega
        have hb3 : (l.length + 1) * 1 ≤ 140737488355328 := by omega
        have hsz1 : w.heap.size ≤ (wr.alloc (.cells #[.int .u8 (s[k].toNat : Int)] 5)).heap.size := by simp; omega
        have hone : ∀ u ∈ [Value.int .u8 (s[k].toNat : Int)], u.oneCell' = true := by simp [Value.oneCell']
        have HO := Lib.hid hone
        clear hone
        go_wp2_with (at_builtin; refine wpList_append_own _ rfl _ _ 29 rfl w.heap.size 5 i0 (.int .u8 0) 1 1 Try.underlying29 hi hz0 hz1 hz2 rfl (by decide) _ _ _ rfl (hrow.alloc _) ⟨wr.heap.size, 0, none⟩ 1 1 [.int .u8 (s[k].toNat : Int)] rfl rfl (cell_one_new _ _ _) HO.out hb2 hb3 hsz1 ?_; intro v' w2 hown' hgrow _)
        go_roundw
        case rel => exact ⟨k + 1, by omega, by go_num, by rw [hnext.out, henc.out]; simpa [u8v] using hown', (hB.alloc hB.size _).trans (grown_below (hrow.alloc _) hsz1 hgrow)⟩
        case measure => simp [intOf]; omega
      · have t : decide ((s[k].toNat : Int) < 128) = false := by simp; omega
        obtain ⟨lo, hlo⟩ : ∃ n : Nat, n = s[k].toNat % 64 := ⟨_, rfl⟩
        obtain ⟨up, hup⟩ : ∃ n : Nat, n = s[k].toNat / 64 := ⟨_, rfl⟩
        have henc := Lib.hid (show (wid1 s[k]).map u8v = [.int .u8 ((192 + up : Nat) : Int), .int .u8 ((128 + lo : Nat) : Int)] by
          rw [wid1_high hx, ← hlo, ← hup]
          simp only [List.map_cons, List.map_nil, u8v]
          rw [ofNat_toNat _ (by omega), ofNat_toNat _ (by omega)])
        have hl2 := Lib.hid (show (wid1 s[k]).length = 2 by rw [wid1_high hx]; rfl)
        have l64 : lo < 64 := by omega
        have u64 : up < 4 := by omega
        have erem : (s[k].toNat : Int) % 64 = (lo : Int) := by omega
        have equo : (s[k].toNat : Int) / 64 = (up : Int) := by omega
        have trem : (s[k].toNat : Int).tmod 64 = (lo : Int) := by rw [Int.tmod_eq_emod_of_nonneg (by omega)]; exact erem
        have tquo : (s[k].toNat : Int).tdiv 64 = (up : Int) := by rw [Int.tdiv_eq_ediv_of_nonneg (by omega)]; exact equo
        have wup : IntKind.u8.wrap (up : Int) = (up : Int) := wrap_u8 up (by omega)
        have wlo : IntKind.u8.wrap (lo : Int) = (lo : Int) := wrap_u8 lo (by omega)
        have wup2 : IntKind.u8.wrap (192 + (up : Int)) = 192 + (up : Int) := by have := wrap_u8 (192 + up) (by omega); simpa using this
        have wlo2 : IntKind.u8.wrap (128 + (lo : Int)) = 128 + (lo : Int) := by have := wrap_u8 (128 + lo) (by omega); simpa using this
        clear hlo hup hx
        have hrow3 : (wr.alloc (.cells #[.int .u8 (192 + (up : Int)), .int .u8 (128 + (lo : Int))] 5)).drew.ownsRow w.heap.size 5 1 u3 l.length (l.map u8v) := hrow.alloc _
        have hb2 : l.length + 2 ≤ maxLen := by unfold maxLen; omega
        have hb3 : (l.length + 2) * 1 ≤ 140737488355328 := by omega
        have hsz3 : w.heap.size ≤ (wr.alloc (.cells #[.int .u8 (192 + (up : Int)), .int .u8 (128 + (lo : Int))] 5)).drew.heap.size := by simp [World.drew]; omega
        have hone : ∀ u ∈ ([.int .u8 (192 + (up : Int)), .int .u8 (128 + (lo : Int))] : List Value), u.oneCell' = true := by simp [Value.oneCell']
        have HO := Lib.hid hone
        clear hone
        go_wp2
        go_region_law (refine step_append_lies _ rfl _ _ 29 rfl w.heap.size 5 i0 (.int .u8 0) 1 1 Try.underlying29 hi hz0 hz1 hz2 rfl (by decide) _ _ _ rfl hrow3 ⟨wr.heap.size, 0, none⟩ 2 2 [.int .u8 (192 + (up : Int)), .int .u8 (128 + (lo : Int))] rfl rfl (cell_two_drew wr _ _ 5) HO.out (by decide) hb2 hb3 hsz3 _ rfl ?_; intro g cap w2 hown' hgrow _ _)
        all_goals
          go_wp2
          go_roundw
          case rel =>
            refine ⟨k + 1, by omega, by go_num, ?_, ?_⟩
            · rw [hnext.out, List.length_append, List.map_append, henc.out, hl2.out]
              simpa [u8v] using hown'
            · have h1 := hB.alloc hB.size (.cells #[.int .u8 (192 + (up : Int)), .int .u8 (128 + (lo : Int))] 5)
              have h2 : Below w.heap.size w (wr.alloc (.cells #[.int .u8 (192 + (up : Int)), .int .u8 (128 + (lo : Int))] 5)).drew := ⟨h1.os, h1.tape, h1.output, h1.size, h1.block⟩
              exact h2.trans (grown_below hrow3 hsz3 hgrow)
          case measure => simp [intOf]; omega
    · obtain rfl : k = s.size := by omega
      have hend := Lib.hid (show wide (s.data.toList.take s.size) = wide s.data.toList by rw [List.take_of_length_le (by exact Nat.le_refl _)])
      have hcv := conv_owned hrow
      go_wp2
      go_ret
      exact ⟨by rw [← hend.out]; rfl, hB⟩

end Go.Proofs.Ytkhpbcdjmcpgdaa.Iso
