/-
  The walks of the small functions of package deci and of what they call: between, Digit, fits, Plain, the two closures; the document's Digit and Plain.
-/
import Derived.Test.YtdmjolmclnnngaaProg
import Derived.Test.YtdmjolmclnnngaaNum
import Derived.WalkKit
import Derived.WalkSpells
import Derived.WalkLawsBesides
import Derived.RangeFuncNested
import Derived.Lib.Hide
namespace Go.Proofs.Ytdmjolmclnnngaa
open Go.RowKit
set_option linter.unusedSimpArgs false
set_option linter.unusedVariables false

def digI (c : Int) : Bool := decide (48 ≤ c) && decide (c ≤ 57)
theorem digI_digB (c : UInt8) : digI (c.toNat : Int) = digB c := by
  unfold digI digB
  rw [Bool.eq_iff_iff]
  simp
  omega

set_option maxHeartbeats 400000 in
theorem between_any (c lo hi : Int) (w : World) :
    Calls Try.prog 22 #[.int .u8 c, .int .u8 lo, .int .u8 hi] w fun e w' => e = .returned (.bool (decide (lo ≤ c) && decide (c ≤ hi))) ∧ w = w' := by
  by_cases h1 : lo ≤ c
  · by_cases h2 : c ≤ hi
    · go_enter Try.func22, Try.ntmps22
      go_wp2
      go_ret
      exact ⟨by simp [h1, h2], rfl⟩
    · have h3 : decide (c ≤ hi) = false := by simpa using h2
      go_enter Try.func22, Try.ntmps22
      go_wp2
      go_ret
      exact ⟨by simp [h1, h2], rfl⟩
  · have h3 : decide (lo ≤ c) = false := by simpa using h1
    go_enter Try.func22, Try.ntmps22
    go_wp2
    go_ret
    exact ⟨by simp [h1], rfl⟩

set_option maxHeartbeats 400000 in
theorem digit_any (c : Int) (w : World) :
    Calls Try.prog 21 #[.int .u8 c] w fun e w' => e = .returned (.bool (digI c)) ∧ w = w' := by
  go_enter Try.func21, Try.ntmps21
  go_wp2_with (go_at_call 22; refine (between_any _ _ _ _).mono ?_; rintro e w' ⟨rfl, rfl⟩)
  go_ret
  exact ⟨rfl, rfl⟩

set_option maxHeartbeats 400000 in
theorem refDigit_any (c : Int) (w : World) :
    Calls Try.prog 18 #[.int .u8 c] w fun e w' => e = .returned (.bool (digI c)) ∧ w = w' := by
  by_cases h1 : 48 ≤ c
  · by_cases h2 : c ≤ 57
    · have e1 : decide (48 ≤ c) = true := by simpa using h1
      have e2 : decide (c ≤ 57) = true := by simpa using h2
      go_enter Try.func18, Try.ntmps18
      go_wp2
      go_ret
      exact ⟨by simp [digI, h1, h2], rfl⟩
    · have e1 : decide (48 ≤ c) = true := by simpa using h1
      have h3 : decide (c ≤ 57) = false := by simpa using h2
      go_enter Try.func18, Try.ntmps18
      go_wp2
      go_ret
      exact ⟨by simp [digI, h1, h2], rfl⟩
  · have h3 : decide (48 ≤ c) = false := by simpa using h1
    go_enter Try.func18, Try.ntmps18
    go_wp2
    go_ret
    exact ⟨by simp [digI, h3], rfl⟩

set_option maxHeartbeats 400000 in
theorem fits_any (n d most : Int) (n0 : 0 ≤ n) (d0 : 0 ≤ d) (d9 : d ≤ 9) (m1 : most ≤ 9223372036854775807) (w : World) :
    Calls Try.prog 17 #[.int .i64 n, .int .i64 d, .int .i64 most] w fun e w' => e = .returned (.bool (decide (10 * n + d ≤ most))) ∧ w = w' := by
  by_cases h1 : d ≤ most
  · have e1 : decide (d ≤ most) = true := by simpa using h1
    have hv : decide (n ≤ (most - d) / 10) = decide (10 * n + d ≤ most) := by
      rw [Bool.eq_iff_iff]
      simp
      omega
    have hv := Lib.hid hv
    go_enter Try.func17, Try.ntmps17
    go_wp2
    go_ret
    exact ⟨by rw [← hv.out]; rfl, rfl⟩
  · have e1 : decide (d ≤ most) = false := by simpa using h1
    have hv := Lib.hid (show decide (10 * n + d ≤ most) = false by simp; omega)
    go_enter Try.func17, Try.ntmps17
    go_wp2
    go_ret
    exact ⟨by rw [hv.out]; rfl, rfl⟩

theorem take_all (s : ByteArray) (k : Nat) (h : k < s.size) (hp : (s.data.toList.take k).all digB = true) (hd : digB s[k] = true) : (s.data.toList.take (k + 1)).all digB = true := by
  have e : s.data.toList.take (k + 1) = s.data.toList.take k ++ [s[k]] := by
    rw [List.take_succ_eq_append_getElem (by simpa using h)]; rfl
  rw [e, List.all_append, hp]
  simp [hd]
theorem not_all (s : ByteArray) (k : Nat) (h : k < s.size) (hd : digB s[k] = false) : plainB s.data.toList = false := by
  unfold plainB
  have hm : s[k] ∈ s.data.toList := List.getElem_mem (l := s.data.toList) (n := k) h
  have : s.data.toList.all digB = false := by
    rw [List.all_eq_false]
    exact ⟨s[k], hm, by simp [hd]⟩
  rw [this]
  simp
theorem yes_all (s : ByteArray) (h : (s.data.toList.take s.size).all digB = true) : plainB s.data.toList = !s.toList.isEmpty := by
  rw [ByteArray.toList_eq]
  rw [List.take_of_length_le (by exact Nat.le_refl _)] at h
  unfold plainB
  rw [h]
  simp

set_option maxHeartbeats 1000000 in
theorem plain_any (s : ByteArray) (hs : s.size ≤ maxLen) (w : World) :
    Calls Try.prog 15 #[.string s] w fun e w' => e = .returned (.bool (plainB s.data.toList)) ∧ w = w' := by
  unfold maxLen at hs
  go_enter Try.func15, Try.ntmps15
  go_wp2
  go_loop [6] (fun i => ∃ k : Nat, k ≤ s.size ∧ i = .int .i64 k ∧ Hid ((s.data.toList.take k).all digB = true)) (fun i => s.size - (intOf i).toNat)
  case atStart => exact ⟨0, Nat.zero_le _, rfl, Lib.hid rfl⟩
  case round =>
    obtain ⟨k, hk, rfl, hp⟩ := hrel
    by_cases hlt : k < s.size
    · have e0 : decide ((k : Int) < s.size) = true := by simpa using hlt
      cases hd : digB s[k]
      · have hi : digI (s[k].toNat : Int) = false := by rw [digI_digB, hd]
        have hn := Lib.hid (not_all s k hlt hd)
        clear hd
        go_wp2_with (go_at_call 21; refine (digit_any _ _).mono ?_; rintro e w' ⟨rfl, rfl⟩)
        go_ret
        exact ⟨by rw [hn.out]; rfl, rfl⟩
      · have hi : digI (s[k].toNat : Int) = true := by rw [digI_digB, hd]
        have hn := Lib.hid (take_all s k hlt hp.out hd)
        clear hd
        go_wp2_with (go_at_call 21; refine (digit_any _ _).mono ?_; rintro e w' ⟨rfl, rfl⟩)
        go_round
        case rel => exact ⟨k + 1, by omega, by go_num, hn⟩
        case measure => simp [intOf]; omega
    · obtain rfl : k = s.size := by omega
      have hn := Lib.hid (yes_all s hp.out)
      go_wp2
      go_ret
      exact ⟨by rw [hn.out]; rfl, rfl⟩

theorem isEmpty_size (s : ByteArray) : (!s.toList.isEmpty) = decide (0 < s.size) := by
  rw [ByteArray.toList_eq]
  have h : s.data.toList.length = s.size := rfl
  cases hl : s.data.toList with
  | nil => rw [hl] at h; simp at h; simp [← h]
  | cons a r => rw [hl] at h; simp at h; simp; omega

set_option maxHeartbeats 1000000 in
theorem refPlain_any (s : ByteArray) (hs : s.size ≤ maxLen) (w : World) :
    Calls Try.prog 12 #[.string s] w fun e w' => e = .returned (.bool (plainB s.data.toList)) ∧ w = w' := by
  unfold maxLen at hs
  go_enter Try.func12, Try.ntmps12
  go_wp2
  go_loop [3] (fun i => ∃ k : Nat, k ≤ s.size ∧ i = .int .i64 k ∧ Hid ((s.data.toList.take k).all digB = true)) (fun i => s.size - (intOf i).toNat)
  case atStart => exact ⟨0, Nat.zero_le _, rfl, Lib.hid rfl⟩
  case round =>
    obtain ⟨k, hk, rfl, hp⟩ := hrel
    by_cases hlt : k < s.size
    · have e0 : decide ((k : Int) < s.size) = true := by simpa using hlt
      cases hd : digB s[k]
      · have hi : digI (s[k].toNat : Int) = false := by rw [digI_digB, hd]
        have hn := Lib.hid (not_all s k hlt hd)
        clear hd
        go_wp2_with (go_at_call 18; refine (refDigit_any _ _).mono ?_; rintro e w' ⟨rfl, rfl⟩)
        go_ret
        exact ⟨by rw [hn.out]; rfl, rfl⟩
      · have hi : digI (s[k].toNat : Int) = true := by rw [digI_digB, hd]
        have hn := Lib.hid (take_all s k hlt hp.out hd)
        clear hd
        go_wp2_with (go_at_call 18; refine (refDigit_any _ _).mono ?_; rintro e w' ⟨rfl, rfl⟩)
        go_round
        case rel => exact ⟨k + 1, by omega, by go_num, hn⟩
        case measure => simp [intOf]; omega
    · obtain rfl : k = s.size := by omega
      have hn := Lib.hid ((yes_all s hp.out).trans (isEmpty_size s))
      go_wp2
      go_ret
      exact ⟨by rw [hn.out]; rfl, rfl⟩

/-- What the closure of Show takes off. -/
theorem neg_tmod (m : Nat) : -((-(m : Int)).tmod 10) = ((m % 10 : Nat) : Int) := by
  rw [Int.neg_tmod, Int.neg_neg]
  exact (Int.ofNat_tmod m 10).symm
theorem neg_tdiv (m : Nat) : (-(m : Int)).tdiv 10 = -((m / 10 : Nat) : Int) := by
  rw [Int.neg_tdiv]
  congr 1

set_option maxHeartbeats 1000000 in
theorem takeLast_any (m : Nat) (hm : m ≤ 9223372036854775808) (B : Nat) (w : World) (hB : Boxed w B 3 (.int .i64 (-(m : Int)))) :
    Calls Try.prog 19 #[.pointer (some ⟨B, 0, none⟩)] w fun e w' => e = .returned (.int .u8 ((digC (m % 10)).toNat : Int)) ∧ w.setCell ⟨B, 0, none⟩ (.int .i64 (-((m / 10 : Nat) : Int))) = w' := by
  have hc := hB.cell
  have hf := hB.frozen
  have e1 := neg_tmod m
  have e2 := neg_tdiv m
  have hv := Lib.hid (show ((digC (m % 10)).toNat : Int) = 48 + (m : Int) % 10 by rw [digC_toNat _ (by omega)]; omega)
  have hq := Lib.hid (show ((m / 10 : Nat) : Int) = (m : Int) / 10 by omega)
  go_enter Try.func19, Try.ntmps19
  go_wp2
  go_ret
  exact ⟨by rw [hv.out]; rfl, by rw [hq.out]⟩

set_option maxHeartbeats 1000000 in
theorem takeFirst_any (s : ByteArray) (h0 : 0 < s.size) (hs : s.size ≤ maxLen) (hd : digB s[0] = true) (B : Nat) (w : World) (hB : Boxed w B 9 (.string s)) :
    Calls Try.prog 16 #[.pointer (some ⟨B, 0, none⟩)] w fun e w' => e = .returned (.int .i64 ((s[0].toNat - 48 : Nat) : Int)) ∧ w.setCell ⟨B, 0, none⟩ (.string (s.extract 1 s.size)) = w' := by
  unfold maxLen at hs
  have hc := hB.cell
  have hf := hB.frozen
  obtain ⟨d1, d2⟩ := digB_iff.1 hd
  have hv := Lib.hid (show ((s[0].toNat - 48 : Nat) : Int) = (s[0].toNat : Int) - 48 by omega)
  go_enter Try.func16, Try.ntmps16
  go_wp2
  go_ret
  exact ⟨by rw [hv.out]; rfl, rfl⟩

end Go.Proofs.Ytdmjolmclnnngaa
