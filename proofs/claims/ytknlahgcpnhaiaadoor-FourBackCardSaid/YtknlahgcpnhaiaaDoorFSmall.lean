/-
  fits, byteAt, Inner, Looks, and the document's Inner.
-/
import Derived.Test.YtknlahgcpnhaiaaDoorFFacts
import Derived.Test.YtknlahgcpnhaiaaDoorShelf
import Derived.Laws.BitsAllLaws
namespace Go.Proofs.YtknlahgcpnhaiaaDoor.Four
open Go.RowKit
set_option linter.unusedSimpArgs false
set_option linter.unusedVariables false

theorem i64_and255 (n : Int) : bits .and .i64 n 255 = n % 256 := by
  have h255 : (BitVec.ofInt 64 255).toNat = 2 ^ 8 - 1 := by decide
  have key : (BitVec.ofInt 64 n &&& BitVec.ofInt 64 255).toNat = (n % ((2 ^ 64 : Nat) : Int)).toNat % 2 ^ 8 := by
    rw [BitVec.toNat_and, BitVec.toNat_ofInt, h255, Nat.and_two_pow_sub_one_eq_mod]
  show IntKind.i64.wrap ((BitVec.ofInt 64 n &&& BitVec.ofInt 64 255).toNat : Nat) = n % 256
  rw [key, IntKind.wrap_i64]
  omega
theorem i64_or8 (n c : Nat) (hn : n ≤ 4294967295) (hc : c < 256) : bits .or .i64 ((n : Int) * 256) (c : Int) = ((n * 256 + c : Nat) : Int) := by
  have e1 : (BitVec.ofInt 64 ((n : Int) * 256)).toNat = n * 256 := by rw [BitVec.toNat_ofInt]; omega
  have e2 : (BitVec.ofInt 64 (c : Int)).toNat = c := by rw [BitVec.toNat_ofInt]; omega
  have key : (BitVec.ofInt 64 ((n : Int) * 256) ||| BitVec.ofInt 64 (c : Int)).toNat = n * 256 + c := by
    rw [BitVec.toNat_or, e1, e2]
    exact nat_join 8 _ _ (by omega) hc
  show IntKind.i64.wrap ((BitVec.ofInt 64 ((n : Int) * 256) ||| BitVec.ofInt 64 (c : Int)).toNat : Nat) = _
  rw [key, IntKind.wrap_i64]
  omega

theorem fitsB_true {n : Int} (h : fitsB n = true) : 0 ≤ n ∧ n ≤ 4294967295 := by
  unfold fitsB at h
  simpa using h
theorem fitsB_false {n : Int} (h : fitsB n = false) : n < 0 ∨ 4294967295 < n := by
  unfold fitsB at h
  simp at h
  omega
theorem fits_any (n : Int) (w : World) : Calls Tryd.prog 24 #[.int .i64 n] w fun e w' => e = .returned (.bool (fitsB n)) ∧ w = w' := by
  by_cases h0 : 0 ≤ n
  · by_cases h1 : n ≤ 4294967295
    · have b0 : decide (0 ≤ n) = true := decide_eq_true h0
      have b1 : decide (n ≤ 4294967295) = true := decide_eq_true h1
      go_enter Tryd.func24, Tryd.ntmps24
      go_wp2
      go_ret
      exact ⟨by simp [fitsB, b0, b1], rfl⟩
    · have b0 : decide (0 ≤ n) = true := decide_eq_true h0
      have b1 : decide (n ≤ 4294967295) = false := decide_eq_false h1
      go_enter Tryd.func24, Tryd.ntmps24
      go_wp2
      go_ret
      exact ⟨by simp [fitsB, b0, b1], rfl⟩
  · have b0 : decide (0 ≤ n) = false := decide_eq_false h0
    go_enter Tryd.func24, Tryd.ntmps24
    go_wp2
    go_ret
    exact ⟨by simp [fitsB, b0], rfl⟩

/-- The bytes of a number, from the highest one on. -/
def byt (n i : Nat) : Nat := match i with
  | 0 => n / 16777216
  | 1 => n / 65536 % 256
  | 2 => n / 256 % 256
  | _ => n % 256
theorem byt_lt (n i : Nat) (hn : n ≤ 4294967295) : byt n i < 256 := by
  unfold byt
  split <;> omega
theorem byteAt_any (n : Nat) (hn : n ≤ 4294967295) (i : Nat) (hi : i < 4) (w : World) : Calls Tryd.prog 25 #[.int .i64 n, .int .i64 i] w fun e w' => e = .returned (.int .i64 (byt n i)) ∧ w = w' := by
  have e0 : bits .and .i64 ((n : Int) / 16777216) 255 = ((n / 16777216 : Nat) : Int) := by rw [i64_and255]; omega
  have e1 : bits .and .i64 ((n : Int) / 65536) 255 = ((n / 65536 % 256 : Nat) : Int) := by rw [i64_and255]; omega
  have e2 : bits .and .i64 ((n : Int) / 256) 255 = ((n / 256 % 256 : Nat) : Int) := by rw [i64_and255]; omega
  have e3 : bits .and .i64 (n : Int) 255 = ((n % 256 : Nat) : Int) := by rw [i64_and255]; omega
  have E0 := Lib.hid e0
  have E1 := Lib.hid e1
  have E2 := Lib.hid e2
  have E3 := Lib.hid e3
  clear e0 e1 e2 e3
  obtain rfl | rfl | rfl | rfl : i = 0 ∨ i = 1 ∨ i = 2 ∨ i = 3 := by omega
  · go_enter Tryd.func25, Tryd.ntmps25
    go_wp2
    go_ret
    exact ⟨congrArg (fun x => Ending.returned (Value.int .i64 x)) E0.out, rfl⟩
  · go_enter Tryd.func25, Tryd.ntmps25
    go_wp2
    go_ret
    exact ⟨congrArg (fun x => Ending.returned (Value.int .i64 x)) E1.out, rfl⟩
  · go_enter Tryd.func25, Tryd.ntmps25
    go_wp2
    go_ret
    exact ⟨congrArg (fun x => Ending.returned (Value.int .i64 x)) E2.out, rfl⟩
  · go_enter Tryd.func25, Tryd.ntmps25
    go_wp2
    go_ret
    exact ⟨congrArg (fun x => Ending.returned (Value.int .i64 x)) E3.out, rfl⟩

theorem inner_any (n : Int) (w : World) : Calls Tryd.prog 16 #[.int .i64 n] w fun e w' => e = .returned (.bool (innerB n)) ∧ w = w' := by
  cases hf : fitsB n
  · have hb := fitsB_false hf
    have hi : innerB n = false := by unfold innerB; simp; omega
    have hc := fits_any n w
    rw [hf] at hc
    clear hb hf
    go_enter Tryd.func16, Tryd.ntmps16
    go_wp2_with (go_at_call 24; refine hc.mono ?_; rintro e w' ⟨rfl, rfl⟩)
    go_ret
    exact ⟨by rw [hi]; rfl, rfl⟩
  · have hb := fitsB_true hf
    obtain ⟨k, rfl⟩ : ∃ k : Nat, n = (k : Int) := ⟨n.toNat, by omega⟩
    have hc := fits_any k w
    rw [hf] at hc
    have hk := byteAt_any k (by omega) 0 (by omega) w
    have ek : byt k 0 = k / 16777216 := rfl
    rw [ek] at hk
    have hi := Lib.hid (show innerB (k : Int) = decide (k / 16777216 = 127) by
      unfold innerB
      rw [Bool.eq_iff_iff]
      simp
      omega)
    obtain ⟨q, hq⟩ : ∃ q : Nat, q = k / 16777216 := ⟨_, rfl⟩
    rw [← hq] at hk hi
    clear hb hf hq ek
    by_cases h : q = 127
    · subst h
      go_enter Tryd.func16, Tryd.ntmps16
      go_wp2_with (first | (go_at_call 24; refine hc.mono ?_; rintro e w' ⟨rfl, rfl⟩) | (go_at_call 25; refine hk.mono ?_; rintro e w' ⟨rfl, rfl⟩))
      go_ret
      exact ⟨by rw [hi.out]; rfl, rfl⟩
    · have b : ((q : Int) == 127) = false := beq_false_of_ne (by omega)
      go_enter Tryd.func16, Tryd.ntmps16
      go_wp2_with (first | (go_at_call 24; refine hc.mono ?_; rintro e w' ⟨rfl, rfl⟩) | (go_at_call 25; refine hk.mono ?_; rintro e w' ⟨rfl, rfl⟩))
      go_ret
      exact ⟨by rw [hi.out, decide_eq_false h]; rfl, rfl⟩

theorem refInner_any (n : Int) (w : World) : Calls Tryd.prog 12 #[.int .i64 n] w fun e w' => e = .returned (.bool (innerB n)) ∧ w = w' := by
  by_cases h0 : 2130706432 ≤ n
  · by_cases h1 : n ≤ 2147483647
    · have b0 : decide (2130706432 ≤ n) = true := decide_eq_true h0
      have b1 : decide (n ≤ 2147483647) = true := decide_eq_true h1
      go_enter Tryd.func12, Tryd.ntmps12
      go_wp2
      go_ret
      exact ⟨by simp [innerB, b0, b1], rfl⟩
    · have b0 : decide (2130706432 ≤ n) = true := decide_eq_true h0
      have b1 : decide (n ≤ 2147483647) = false := decide_eq_false h1
      go_enter Tryd.func12, Tryd.ntmps12
      go_wp2
      go_ret
      exact ⟨by simp [innerB, b0, b1], rfl⟩
  · have b0 : decide (2130706432 ≤ n) = false := decide_eq_false h0
    go_enter Tryd.func12, Tryd.ntmps12
    go_wp2
    go_ret
    exact ⟨by simp [innerB, b0], rfl⟩

theorem last_at (s : ByteArray) (hs : s.size ≤ 1000000) (k : Int) (hk : Lib.lastIndex s.data.toList [46] = k) (w : World) :
    Calls Tryd.prog 28 #[.string s, .string ⟨#[46]⟩] w fun e w' => e = .returned (.int .i64 k) ∧ w = w' := by
  subst hk
  exact (Tryd.strings_LastIndex s ⟨#[46]⟩ (by omega) w).mono fun e w' h => ⟨h.1, h.2.symm⟩
theorem plain_at (s : ByteArray) (hs : s.size ≤ 1000000) (b : Bool) (hb : Deci.plainB s.data.toList = b) (w : World) :
    Calls Tryd.prog 17 #[.string s] w fun e w' => e = .returned (.bool b) ∧ w = w' := by
  subst hb
  exact Deci.plain_any s (by unfold maxLen; omega) w
theorem looks_at (s : ByteArray) (hs : s.size ≤ 1000000) (b : Bool) (hb : lookB s.data.toList = b) (w : World) : Calls Tryd.prog 15 #[.string s] w fun e w' => e = .returned (.bool b) ∧ w = w' := by
  rcases last_dot s.data.toList with ⟨h, hn⟩ | ⟨k, h, hk, hd, hn⟩
  · have hc := last_at s hs _ h w
    have hp := plain_at s hs b (by rw [← hb]; unfold lookB; rw [aft_none _ hn]) w
    clear h hn hb
    go_enter Tryd.func15, Tryd.ntmps15
    go_wp2_with (first | (go_at_call 28; refine hc.mono ?_; rintro e w' ⟨rfl, rfl⟩) | (go_at_call 17; refine hp.mono ?_; rintro e w' ⟨rfl, rfl⟩))
    go_ret
    exact ⟨rfl, rfl⟩
  · have hk' : k < s.size := hk
    have hc := last_at s hs _ h w
    have hp := plain_at (s.extract (k + 1) s.size) (by simp; omega) b (by rw [← hb]; unfold lookB; rw [aft_at _ k hd hn, Lib.extract_to_end]) w
    clear h hn hd hk hb
    go_enter Tryd.func15, Tryd.ntmps15
    go_wp2_with (first | (go_at_call 28; refine hc.mono ?_; rintro e w' ⟨rfl, rfl⟩) | (go_at_call 17; refine hp.mono ?_; rintro e w' ⟨rfl, rfl⟩))
    go_ret
    exact ⟨rfl, rfl⟩
end Go.Proofs.YtknlahgcpnhaiaaDoor.Four
