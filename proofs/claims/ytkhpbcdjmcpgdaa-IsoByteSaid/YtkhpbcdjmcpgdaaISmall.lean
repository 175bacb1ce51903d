/-
  The walks of the small functions of package iso: told, Plain, Count; the document's Plain and Count.
-/
import Derived.Test.YtkhpbcdjmcpgdaaIFacts
import Derived.WalkKit
import Derived.WalkSpells
import Derived.WalkLawsBesides
import Derived.Lib.Hide
import Derived.Lib.Walk
import Derived.Lib.OthersKept
import Derived.LoopTactic
namespace Go.Proofs.Ytkhpbcdjmcpgdaa.Iso
open Go.RowKit
set_option linter.unusedSimpArgs false
set_option linter.unusedVariables false

set_option maxHeartbeats 400000 in
theorem told_high (r : Int) (h : decide (255 < r) = true) (w : World) :
    Calls Try.prog 18 #[.int .i32 r] w fun e w' => e = .returned (.iface 21 (.int .i32 r)) ∧ w = w' := by
  go_enter Try.func18, Try.ntmps18
  go_wp2
  go_ret
  exact ⟨rfl, rfl⟩

set_option maxHeartbeats 400000 in
theorem told_low (r : Int) (h0 : 0 ≤ r) (h : decide (255 < r) = false) (w : World) :
    Calls Try.prog 18 #[.int .i32 r] w fun e w' => e = .returned (.iface 5 (.int .u8 r)) ∧ w = w' := by
  have h1 : r ≤ 255 := by simpa using h
  go_enter Try.func18, Try.ntmps18
  go_wp2
  go_ret
  exact ⟨rfl, rfl⟩

theorem take_snoc (s : ByteArray) (k : Nat) (h : k < s.size) : s.data.toList.take (k + 1) = s.data.toList.take k ++ [s[k]] := by
  rw [List.take_succ_eq_append_getElem (l := s.data.toList) (i := k) h]; rfl
theorem plain_snoc (s : ByteArray) (k : Nat) (h : k < s.size) (hp : plainB (s.data.toList.take k) = true) (hd : decide (128 ≤ (s[k].toNat : Int)) = false) : plainB (s.data.toList.take (k + 1)) = true := by
  rw [take_snoc s k h, plain_append, hp]
  simp at hd
  simp [plainB]
  omega
theorem plain_not (s : ByteArray) (k : Nat) (h : k < s.size) (hd : decide (128 ≤ (s[k].toNat : Int)) = true) : plainB s.data.toList = false := by
  unfold plainB
  have hm : s[k] ∈ s.data.toList := List.getElem_mem (l := s.data.toList) (n := k) h
  rw [List.all_eq_false]
  refine ⟨s[k], hm, ?_⟩
  simp at hd
  simp
  omega
theorem plain_all (s : ByteArray) (h : plainB (s.data.toList.take s.size) = true) : plainB s.data.toList = true := by
  rwa [List.take_of_length_le (by exact Nat.le_refl _)] at h

set_option maxHeartbeats 1000000 in
theorem plain_any (s : ByteArray) (hs : s.size ≤ maxLen) (w : World) :
    Calls Try.prog 17 #[.string s] w fun e w' => e = .returned (.bool (plainB s.data.toList)) ∧ w = w' := by
  unfold maxLen at hs
  go_enter Try.func17, Try.ntmps17
  go_wp2
  go_loop [3, 6] (fun _ i => ∃ k : Nat, k ≤ s.size ∧ i = .int .i64 k ∧ Hid (plainB (s.data.toList.take k) = true)) (fun _ i => s.size - (intOf i).toNat)
  case atStart => exact ⟨0, Nat.zero_le _, rfl, Lib.hid rfl⟩
  case round =>
    obtain ⟨k, hk, rfl, hp⟩ := hrel
    by_cases hlt : k < s.size
    · cases hd : decide (128 ≤ (s[k].toNat : Int))
      · have hn := Lib.hid (plain_snoc s k hlt hp.out hd)
        go_wp2
        go_round
        case rel => exact ⟨k + 1, by omega, by go_num, hn⟩
        case measure => simp [intOf]; omega
      · have hn := Lib.hid (plain_not s k hlt hd)
        go_wp2
        go_ret
        exact ⟨by rw [hn.out]; rfl, rfl⟩
    · obtain rfl : k = s.size := by omega
      have hn := Lib.hid (plain_all s hp.out)
      go_wp2
      go_ret
      exact ⟨by rw [hn.out]; rfl, rfl⟩

set_option maxHeartbeats 1000000 in
theorem refPlain_any (s : ByteArray) (hs : s.size ≤ maxLen) (w : World) :
    Calls Try.prog 12 #[.string s] w fun e w' => e = .returned (.bool (plainB s.data.toList)) ∧ w = w' := by
  unfold maxLen at hs
  go_enter Try.func12, Try.ntmps12
  go_wp2
  go_loop [3] (fun i => ∃ k : Nat, k ≤ s.size ∧ i = .int .i64 k ∧ Hid (plainB (s.data.toList.take k) = true)) (fun i => s.size - (intOf i).toNat)
  case atStart => exact ⟨0, Nat.zero_le _, rfl, Lib.hid rfl⟩
  case round =>
    obtain ⟨k, hk, rfl, hp⟩ := hrel
    by_cases hlt : k < s.size
    · cases hd : decide (128 ≤ (s[k].toNat : Int))
      · have hn := Lib.hid (plain_snoc s k hlt hp.out hd)
        go_wp2
        go_round
        case rel => exact ⟨k + 1, by omega, by go_num, hn⟩
        case measure => simp [intOf]; omega
      · have hn := Lib.hid (plain_not s k hlt hd)
        go_wp2
        go_ret
        exact ⟨by rw [hn.out]; rfl, rfl⟩
    · obtain rfl : k = s.size := by omega
      have hn := Lib.hid (plain_all s hp.out)
      go_wp2
      go_ret
      exact ⟨by rw [hn.out]; rfl, rfl⟩

theorem count_end (s : ByteArray) (k : Nat) (h : ¬ k < s.size) : count (s.data.toList.drop k) = 0 := by
  rw [List.drop_of_length_le (by show s.size ≤ k; omega), count_nil]

set_option maxHeartbeats 1000000 in
theorem count_any (s : ByteArray) (hs : s.size ≤ maxLen) (w : World) :
    Calls Try.prog 15 #[.string s] w fun e w' => e = .returned (.int .i64 (count s.data.toList)) ∧ Below w.heap.size w w' := by
  unfold maxLen at hs
  go_enter Try.func15, Try.ntmps15
  go_wp2
  go_loopw [3] (fun n wr => ∃ (pos acc : Nat), wr = w.iter s pos ∧ n = .int .i64 acc ∧ Hid (count s.data.toList = acc + count (s.data.toList.drop pos)) ∧ acc ≤ pos) (fun _ wr => s.size - wr.iterPos w.heap.size)
  case atStart => exact ⟨0, 0, rfl, rfl, Lib.hid (by simp), Nat.le_refl _⟩
  case round =>
    obtain ⟨pos, acc, rfl, rfl, hc, ha⟩ := hrel
    by_cases hp : pos < s.size
    · have hnx : ∀ ty, (Instr.next (.pointer (some ⟨w.heap.size, 0, none⟩)) true ty).run Try.prog (w.iter s pos) = _ := fun ty => run_next_any w s pos ty hp
      have hst := step_count s pos hp
      have hwd := hst.1
      have hn := Lib.hid (show count s.data.toList = (acc + 1) + count (s.data.toList.drop (pos + (Utf8.decode s pos).2)) by rw [hc.out, hst.2]; omega)
      clear hst
      go_wp2
      go_roundw
      case rel => exact ⟨pos + (Utf8.decode s pos).2, acc + 1, rfl, by go_num, hn, by omega⟩
      case measure => simp; omega
    · have hnx : ∀ ty, (Instr.next (.pointer (some ⟨w.heap.size, 0, none⟩)) true ty).run Try.prog (w.iter s pos) = _ := fun ty => run_next_end w s pos ty hp
      have hn := Lib.hid (show count s.data.toList = acc by rw [hc.out, count_end s pos hp]; rfl)
      go_wp2
      go_ret
      exact ⟨by rw [hn.out]; rfl, (Below.refl _ w).alloc (Nat.le_refl _) _⟩

set_option maxHeartbeats 1000000 in
theorem refCount_any (s : ByteArray) (hs : s.size ≤ maxLen) (w : World) :
    Calls Try.prog 16 #[.string s] w fun e w' => e = .returned (.int .i64 (count s.data.toList)) ∧ Below w.heap.size w w' := by
  unfold maxLen at hs
  go_enter Try.func16, Try.ntmps16
  go_wp2
  go_loopw [3] (fun n wr => ∃ (pos acc : Nat), wr = w.iter s pos ∧ n = .int .i64 acc ∧ Hid (count s.data.toList = acc + count (s.data.toList.drop pos)) ∧ acc ≤ pos) (fun _ wr => s.size - wr.iterPos w.heap.size)
  case atStart => exact ⟨0, 0, rfl, rfl, Lib.hid (by simp), Nat.le_refl _⟩
  case round =>
    obtain ⟨pos, acc, rfl, rfl, hc, ha⟩ := hrel
    by_cases hp : pos < s.size
    · have hnx : ∀ ty, (Instr.next (.pointer (some ⟨w.heap.size, 0, none⟩)) true ty).run Try.prog (w.iter s pos) = _ := fun ty => run_next_any w s pos ty hp
      have hst := step_count s pos hp
      have hwd := hst.1
      have hn := Lib.hid (show count s.data.toList = (acc + 1) + count (s.data.toList.drop (pos + (Utf8.decode s pos).2)) by rw [hc.out, hst.2]; omega)
      clear hst
      go_wp2
      go_roundw
      case rel => exact ⟨pos + (Utf8.decode s pos).2, acc + 1, rfl, by go_num, hn, by omega⟩
      case measure => simp; omega
    · have hnx : ∀ ty, (Instr.next (.pointer (some ⟨w.heap.size, 0, none⟩)) true ty).run Try.prog (w.iter s pos) = _ := fun ty => run_next_end w s pos ty hp
      have hn := Lib.hid (show count s.data.toList = acc by rw [hc.out, count_end s pos hp]; rfl)
      go_wp2
      go_ret
      exact ⟨by rw [hn.out]; rfl, (Below.refl _ w).alloc (Nat.le_refl _) _⟩

end Go.Proofs.Ytkhpbcdjmcpgdaa.Iso
