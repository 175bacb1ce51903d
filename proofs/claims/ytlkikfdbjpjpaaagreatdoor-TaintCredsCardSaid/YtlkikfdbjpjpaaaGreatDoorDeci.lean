/-
  Numbers in digits to the base of 10, as lists of bytes: shown, read. Nothing of the program.
  The walks of the small functions of package deci and of what they call: between, Digit, fits, Plain, the two closures; the document's Digit and Plain.
  A goto back to one label, at which what is said of every jump holds already when the label is first reached: one walk of what stands behind the label is enough. Nothing of the program.
  Read(s, most): the number that plain digits tell, up to most.
  slices.Reverse of a slice of bytes that the call owns: the same slice owns the bytes turned round; nothing else has changed.
  Show(n): a number in digits.
  The chapter's examples answer as the chapter says (awake); 'nothing that was there has changed', step behind step.
  The document's Show(n).
  The document's Read(s, most).
-/
import Derived.Test.YtlkikfdbjpjpaaaGreatDoorProg
import Derived.KernelRfl
import Derived.WalkKit
import Derived.WalkSpells
import Derived.WalkLawsBesides
import Derived.RangeFuncNested
import Derived.Lib.Hide
import Derived.WalkMore
import Derived.ScopeJumps
import Derived.Sort.WalkB12
import Derived.Sort.OwnSorted
import Derived.Lib.SlicesMore
import Derived.Deep.LoopGhost
import Derived.Shelf.RegionOpenPlain
import Derived.Maps.AppendAt
namespace Go.Proofs.YtlkikfdbjpjpaaaGreatDoor.Deci
set_option linter.unusedSimpArgs false
set_option linter.unusedVariables false
set_option maxRecDepth 100000


/-- The byte of a digit. -/
@[irreducible] def digC (n : Nat) : UInt8 := UInt8.ofNat (48 + n)

theorem digC_toNat (n : Nat) (h : n < 10) : (digC n).toNat = 48 + n := by
  unfold digC
  rw [UInt8.toNat_ofNat']
  omega

/-- A number in digits, the highest first. -/
def showN (n : Nat) : List UInt8 := if n < 10 then [digC n] else showN (n / 10) ++ [digC (n % 10)]
termination_by n
decreasing_by omega

def showI (n : Int) : List UInt8 := if n < 0 then 45 :: showN n.natAbs else showN n.natAbs

def digB (c : UInt8) : Bool := decide (48 ≤ c.toNat) && decide (c.toNat ≤ 57)

def plainB (l : List UInt8) : Bool := !l.isEmpty && l.all digB

def valF (a : Nat) (l : List UInt8) : Nat := l.foldl (fun a c => 10 * a + (c.toNat - 48)) a

def valN (l : List UInt8) : Nat := valF 0 l

/-- Is it read? -/
def readB (l : List UInt8) (most : Int) : Bool := plainB l && decide ((valN l : Int) ≤ most)

def readI (l : List UInt8) (most : Int) : Int := if readB l most then (valN l : Int) else 0

theorem showN_lt {n : Nat} (h : n < 10) : showN n = [digC n] := by rw [showN, if_pos h]

theorem showN_ge {n : Nat} (h : ¬ n < 10) : showN n = showN (n / 10) ++ [digC (n % 10)] := by rw [showN, if_neg h]

theorem digB_digC (n : Nat) (h : n < 10) : digB (digC n) = true := by
  unfold digB
  rw [digC_toNat n h]
  simp
  omega

theorem digB_iff {c : UInt8} : digB c = true ↔ 48 ≤ c.toNat ∧ c.toNat ≤ 57 := by simp [digB]

theorem showN_ne (n : Nat) : showN n ≠ [] := by
  by_cases h : n < 10
  · rw [showN_lt h]; simp
  · rw [showN_ge h]; simp

theorem showN_all (n : Nat) : (showN n).all digB = true := by
  induction n using Nat.strongRecOn with
  | _ n ih =>
    by_cases h : n < 10
    · rw [showN_lt h]; simp [digB_digC n h]
    · rw [showN_ge h, List.all_append, ih _ (by omega)]
      simp [digB_digC (n % 10) (by omega)]

theorem showN_plain (n : Nat) : plainB (showN n) = true := by
  unfold plainB
  rw [showN_all]
  have := showN_ne n
  simp [this]

theorem valF_nil (a : Nat) : valF a [] = a := rfl

theorem valF_cons (a : Nat) (c : UInt8) (l : List UInt8) : valF a (c :: l) = valF (10 * a + (c.toNat - 48)) l := by unfold valF; rw [List.foldl_cons]

theorem valF_append (a : Nat) (l r : List UInt8) : valF a (l ++ r) = valF (valF a l) r := by simp [valF]

theorem valF_snoc (a : Nat) (l : List UInt8) (c : UInt8) : valF a (l ++ [c]) = 10 * valF a l + (c.toNat - 48) := by rw [valF_append, valF_cons, valF_nil]

theorem valN_snoc (l : List UInt8) (c : UInt8) : valN (l ++ [c]) = 10 * valN l + (c.toNat - 48) := valF_snoc 0 l c

theorem valN_showN (n : Nat) : valN (showN n) = n := by
  induction n using Nat.strongRecOn with
  | _ n ih =>
    by_cases h : n < 10
    · rw [showN_lt h]
      unfold valN
      rw [valF_cons, valF_nil, digC_toNat n h]
      omega
    · rw [showN_ge h, valN_snoc, ih _ (by omega), digC_toNat _ (by omega)]
      omega

/-- Whatever comes behind, a number does not grow less. -/
theorem valF_ge (a : Nat) (l : List UInt8) : a ≤ valF a l := by
  induction l generalizing a with
  | nil => exact Nat.le_refl _
  | cons c l ih => rw [valF_cons]; exact Nat.le_trans (by omega) (ih _)

theorem valF_zeros (l : List UInt8) (k : Nat) : valN (List.replicate k 48 ++ l) = valN l := by
  induction k with
  | zero => rfl
  | succ k ih =>
    rw [List.replicate_succ, List.cons_append]
    unfold valN at ih ⊢
    rw [valF_cons, show 10 * 0 + ((48 : UInt8).toNat - 48) = 0 by decide]
    exact ih

theorem showN_inj {a b : Nat} (h : showN a = showN b) : a = b := by rw [← valN_showN a, h, valN_showN]

/-- The first digit is no 0, but of 0. -/
theorem showN_head (n : Nat) (h : 0 < n) : ∃ c r, showN n = c :: r ∧ c ≠ 48 := by
  induction n using Nat.strongRecOn with
  | _ n ih =>
    by_cases hn : n < 10
    · refine ⟨digC n, [], showN_lt hn, fun e => ?_⟩
      have := digC_toNat n hn
      rw [e] at this
      have e48 : (48 : UInt8).toNat = 48 := rfl
      omega
    · obtain ⟨c, r, e, hc⟩ := ih (n / 10) (by omega) (by omega)
      exact ⟨c, r ++ [digC (n % 10)], by rw [showN_ge hn, e]; rfl, hc⟩

theorem digC_zero : digC 0 = 48 := UInt8.toNat_inj.1 (by rw [digC_toNat 0 (by omega)]; rfl)

theorem showN_zero : showN 0 = [48] := by rw [showN_lt (by omega), digC_zero]

theorem showN_ten (n : Nat) (h : 0 < n) : showN (10 * n) = showN n ++ [48] := by
  rw [showN_ge (by omega), show 10 * n / 10 = n by omega, show 10 * n % 10 = 0 by omega, digC_zero]

theorem digC_sub (c : UInt8) (h : digB c = true) : digC (c.toNat - 48) = c := by
  obtain ⟨h1, h2⟩ := digB_iff.1 h
  apply UInt8.toNat_inj.1
  rw [digC_toNat _ (by omega)]
  omega

/-- What is read is shown as the digits without zeros ahead. -/
theorem showN_valN (l : List UInt8) (hne : l ≠ []) (h : l.all digB = true) : ∃ k, l = List.replicate k 48 ++ showN (valN l) := by
  induction hl : l.length generalizing l with
  | zero => exact absurd (List.eq_nil_of_length_eq_zero hl) hne
  | succ n ih =>
    obtain ⟨r, c, rfl⟩ : ∃ r c, l = r ++ [c] := by
      rcases List.eq_nil_or_concat l with e | ⟨r, c, e⟩
      · exact absurd e hne
      · exact ⟨r, c, by simpa using e⟩
    simp at h hl
    obtain ⟨hr, hc⟩ := h
    have hd := digC_sub c hc
    obtain ⟨hc1, hc2⟩ := digB_iff.1 hc
    rw [valN_snoc]
    by_cases hr0 : r = []
    · subst hr0
      refine ⟨0, ?_⟩
      rw [show valN [] = 0 from rfl, showN_lt (by omega), show 10 * 0 + (c.toNat - 48) = c.toNat - 48 by omega, hd]
      rfl
    · obtain ⟨k, hk⟩ := ih r hr0 (by simpa using hr) hl
      by_cases hv : valN r = 0
      · rw [hv] at hk ⊢
        refine ⟨k + 1, ?_⟩
        rw [hk, showN_zero, showN_lt (by omega), show 10 * 0 + (c.toNat - 48) = c.toNat - 48 by omega, hd, List.replicate_succ']
      · refine ⟨k, ?_⟩
        rw [showN_ge (by omega), show (10 * valN r + (c.toNat - 48)) / 10 = valN r by omega, show (10 * valN r + (c.toNat - 48)) % 10 = c.toNat - 48 by omega, hd, ← List.append_assoc, ← hk]

theorem showN_len_mono {a b : Nat} (h : a ≤ b) : (showN a).length ≤ (showN b).length := by
  induction b using Nat.strongRecOn generalizing a with
  | _ b ih =>
    by_cases hb : b < 10
    · rw [showN_lt hb, showN_lt (by omega)]; simp
    · rw [showN_ge hb]
      by_cases ha : a < 10
      · rw [showN_lt ha]; simp
      · rw [showN_ge ha]
        simp
        exact ih _ (by omega) (by omega)

theorem showN_len_pow (k n : Nat) (h : n < 10 ^ (k + 1)) : (showN n).length ≤ k + 1 := by
  induction k generalizing n with
  | zero => rw [showN_lt (by omega)]; simp
  | succ k ih =>
    by_cases hn : n < 10
    · rw [showN_lt hn]; simp
    · rw [showN_ge hn]
      have := ih (n / 10) (by rw [Nat.pow_succ] at h; omega)
      simp
      omega

theorem showN_len (n : Nat) (h : n ≤ 9223372036854775808) : (showN n).length ≤ 19 := showN_len_pow 18 n (by omega)

theorem showN_pos (n : Nat) : 1 ≤ (showN n).length := List.length_pos_iff.2 (showN_ne n)

theorem showI_nonneg {n : Int} (h : 0 ≤ n) : showI n = showN n.toNat := by
  unfold showI
  rw [if_neg (by omega), show n.natAbs = n.toNat by omega]

theorem showI_neg {n : Int} (h : n < 0) : showI n = 45 :: showN n.natAbs := by
  unfold showI
  rw [if_pos h]

theorem showI_len (n : Int) (h0 : -9223372036854775808 ≤ n) (h1 : n ≤ 9223372036854775807) : (showI n).length ≤ 20 ∧ 1 ≤ (showI n).length := by
  have a := showN_len n.natAbs (by omega)
  have b := showN_pos n.natAbs
  unfold showI
  split
  · simp; omega
  · omega

theorem valF_lt (a : Nat) (l : List UInt8) (h : l.all digB = true) : valF a l < (a + 1) * 10 ^ l.length := by
  induction l generalizing a with
  | nil => rw [valF_nil]; simp
  | cons c l ih =>
    rw [List.all_cons, Bool.and_eq_true] at h
    have hc := digB_iff.1 h.1
    have h1 := ih (10 * a + (c.toNat - 48)) h.2
    rw [valF_cons]
    refine Nat.lt_of_lt_of_le h1 ?_
    rw [List.length_cons, Nat.pow_succ, Nat.mul_comm (10 ^ l.length) 10, ← Nat.mul_assoc]
    exact Nat.mul_le_mul_right _ (by omega)

theorem valN_lt (l : List UInt8) (h : l.all digB = true) : valN l < 10 ^ l.length := by
  have := valF_lt 0 l h
  rw [Nat.zero_add, Nat.one_mul] at this
  exact this

theorem plain_iff (l : List UInt8) : plainB l = true ↔ l ≠ [] ∧ l.all digB = true := by
  unfold plainB
  rw [Bool.and_eq_true]
  simp

theorem head_digit {c : UInt8} {r : List UInt8} {n : Nat} (h : showN n = c :: r) : digB c = true := by
  have := showN_all n
  rw [h] at this
  simp at this
  exact this.1

theorem showI_inj {a b : Int} (h : showI a = showI b) : a = b := by
  have mix : ∀ x y : Int, x < 0 → ¬ y < 0 → showI x ≠ showI y := by
    intro x y hx hy e
    rw [showI_neg hx, showI_nonneg (by omega)] at e
    have := head_digit e.symm
    revert this
    decide
  by_cases ha : a < 0
  · by_cases hb : b < 0
    · rw [showI_neg ha, showI_neg hb] at h
      have := showN_inj (List.cons.inj h).2
      omega
    · exact absurd h (mix a b ha hb)
  · by_cases hb : b < 0
    · exact absurd h.symm (mix b a hb ha)
    · rw [showI_nonneg (by omega), showI_nonneg (by omega)] at h
      have := showN_inj h
      omega



open Go.RowKit


def digI (c : Int) : Bool := decide (48 ≤ c) && decide (c ≤ 57)

theorem digI_digB (c : UInt8) : digI (c.toNat : Int) = digB c := by
  unfold digI digB
  rw [Bool.eq_iff_iff]
  simp
  omega

set_option maxHeartbeats 400000 in
theorem between_any (c lo hi : Int) (w : World) :
    Calls Tryz.prog 152 #[.int .u8 c, .int .u8 lo, .int .u8 hi] w fun e w' => e = .returned (.bool (decide (lo ≤ c) && decide (c ≤ hi))) ∧ w = w' := by
  by_cases h1 : lo ≤ c
  · by_cases h2 : c ≤ hi
    · go_enter Tryz.func152, Tryz.ntmps152
      go_wp2
      go_ret
      exact ⟨by simp [h1, h2], rfl⟩
    · have h3 : decide (c ≤ hi) = false := by simpa using h2
      go_enter Tryz.func152, Tryz.ntmps152
      go_wp2
      go_ret
      exact ⟨by simp [h1, h2], rfl⟩
  · have h3 : decide (lo ≤ c) = false := by simpa using h1
    go_enter Tryz.func152, Tryz.ntmps152
    go_wp2
    go_ret
    exact ⟨by simp [h1], rfl⟩

set_option maxHeartbeats 400000 in
theorem digit_any (c : Int) (w : World) :
    Calls Tryz.prog 121 #[.int .u8 c] w fun e w' => e = .returned (.bool (digI c)) ∧ w = w' := by
  go_enter Tryz.func121, Tryz.ntmps121
  go_wp2_with (go_at_call 152; refine (between_any _ _ _ _).mono ?_; rintro e w' ⟨rfl, rfl⟩)
  go_ret
  exact ⟨rfl, rfl⟩

set_option maxHeartbeats 400000 in
theorem refDigit_any (c : Int) (w : World) :
    Calls Tryz.prog 134 #[.int .u8 c] w fun e w' => e = .returned (.bool (digI c)) ∧ w = w' := by
  by_cases h1 : 48 ≤ c
  · by_cases h2 : c ≤ 57
    · have e1 : decide (48 ≤ c) = true := by simpa using h1
      have e2 : decide (c ≤ 57) = true := by simpa using h2
      go_enter Tryz.func134, Tryz.ntmps134
      go_wp2
      go_ret
      exact ⟨by simp [digI, h1, h2], rfl⟩
    · have e1 : decide (48 ≤ c) = true := by simpa using h1
      have h3 : decide (c ≤ 57) = false := by simpa using h2
      go_enter Tryz.func134, Tryz.ntmps134
      go_wp2
      go_ret
      exact ⟨by simp [digI, h1, h2], rfl⟩
  · have h3 : decide (48 ≤ c) = false := by simpa using h1
    go_enter Tryz.func134, Tryz.ntmps134
    go_wp2
    go_ret
    exact ⟨by simp [digI, h3], rfl⟩

set_option maxHeartbeats 400000 in
theorem fits_any (n d most : Int) (n0 : 0 ≤ n) (d0 : 0 ≤ d) (d9 : d ≤ 9) (m1 : most ≤ 9223372036854775807) (w : World) :
    Calls Tryz.prog 182 #[.int .i64 n, .int .i64 d, .int .i64 most] w fun e w' => e = .returned (.bool (decide (10 * n + d ≤ most))) ∧ w = w' := by
  by_cases h1 : d ≤ most
  · have e1 : decide (d ≤ most) = true := by simpa using h1
    have hv : decide (n ≤ (most - d) / 10) = decide (10 * n + d ≤ most) := by
      rw [Bool.eq_iff_iff]
      simp
      omega
    have hv := Lib.hid hv
    go_enter Tryz.func182, Tryz.ntmps182
    go_wp2
    go_ret
    exact ⟨by rw [← hv.out]; rfl, rfl⟩
  · have e1 : decide (d ≤ most) = false := by simpa using h1
    have hv := Lib.hid (show decide (10 * n + d ≤ most) = false by simp; omega)
    go_enter Tryz.func182, Tryz.ntmps182
    go_wp2
    go_ret
    exact ⟨by rw [hv.out]; rfl, rfl⟩

theorem take_all (s : ByteArray) (k : Nat) (h : k < s.size) (hp : (s.data.toList.take k).all digB = true) (hd : digB s[k] = true) : (s.data.toList.take (k + 1)).all digB = true := by
  have e : s.data.toList.take (k + 1) = s.data.toList.take k ++ [s[k]] := by
    rw [List.take_succ_eq_append_getElem (by simpa using h)]; rfl
  rw [e, List.all_append, hp]
  simp [hd]

theorem not_all (s : ByteArray) (k : Nat) (h : k < s.size) (hd : digB s[k] = false) : plainB s.data.toList = false := by
  unfold plainB
  have hm : s[k] ∈ s.data.toList := List.getElem_mem (l := s.data.toList) (n := k) h
  have : s.data.toList.all digB = false := by
    rw [List.all_eq_false]
    exact ⟨s[k], hm, by simp [hd]⟩
  rw [this]
  simp

theorem yes_all (s : ByteArray) (h : (s.data.toList.take s.size).all digB = true) : plainB s.data.toList = !s.toList.isEmpty := by
  rw [ByteArray.toList_eq]
  rw [List.take_of_length_le (by exact Nat.le_refl _)] at h
  unfold plainB
  rw [h]
  simp

set_option maxHeartbeats 1000000 in
theorem plain_any (s : ByteArray) (hs : s.size ≤ maxLen) (w : World) :
    Calls Tryz.prog 180 #[.string s] w fun e w' => e = .returned (.bool (plainB s.data.toList)) ∧ w = w' := by
  unfold maxLen at hs
  go_enter Tryz.func180, Tryz.ntmps180
  go_wp2
  go_loop [6] (fun i => ∃ k : Nat, k ≤ s.size ∧ i = .int .i64 k ∧ Hid ((s.data.toList.take k).all digB = true)) (fun i => s.size - (intOf i).toNat)
  case atStart => exact ⟨0, Nat.zero_le _, rfl, Lib.hid rfl⟩
  case round =>
    obtain ⟨k, hk, rfl, hp⟩ := hrel
    by_cases hlt : k < s.size
    · have e0 : decide ((k : Int) < s.size) = true := by simpa using hlt
      cases hd : digB s[k]
      · have hi : digI (s[k].toNat : Int) = false := by rw [digI_digB, hd]
        have hn := Lib.hid (not_all s k hlt hd)
        clear hd
        go_wp2_with (go_at_call 121; refine (digit_any _ _).mono ?_; rintro e w' ⟨rfl, rfl⟩)
        go_ret
        exact ⟨by rw [hn.out]; rfl, rfl⟩
      · have hi : digI (s[k].toNat : Int) = true := by rw [digI_digB, hd]
        have hn := Lib.hid (take_all s k hlt hp.out hd)
        clear hd
        go_wp2_with (go_at_call 121; refine (digit_any _ _).mono ?_; rintro e w' ⟨rfl, rfl⟩)
        go_round
        case rel => exact ⟨k + 1, by omega, by go_num, hn⟩
        case measure => simp [intOf]; omega
    · obtain rfl : k = s.size := by omega
      have hn := Lib.hid (yes_all s hp.out)
      go_wp2
      go_ret
      exact ⟨by rw [hn.out]; rfl, rfl⟩

theorem isEmpty_size (s : ByteArray) : (!s.toList.isEmpty) = decide (0 < s.size) := by
  rw [ByteArray.toList_eq]
  have h : s.data.toList.length = s.size := rfl
  cases hl : s.data.toList with
  | nil => rw [hl] at h; simp at h; simp [← h]
  | cons a r => rw [hl] at h; simp at h; simp; omega

set_option maxHeartbeats 1000000 in
theorem refPlain_any (s : ByteArray) (hs : s.size ≤ maxLen) (w : World) :
    Calls Tryz.prog 161 #[.string s] w fun e w' => e = .returned (.bool (plainB s.data.toList)) ∧ w = w' := by
  unfold maxLen at hs
  go_enter Tryz.func161, Tryz.ntmps161
  go_wp2
  go_loop [3] (fun i => ∃ k : Nat, k ≤ s.size ∧ i = .int .i64 k ∧ Hid ((s.data.toList.take k).all digB = true)) (fun i => s.size - (intOf i).toNat)
  case atStart => exact ⟨0, Nat.zero_le _, rfl, Lib.hid rfl⟩
  case round =>
    obtain ⟨k, hk, rfl, hp⟩ := hrel
    by_cases hlt : k < s.size
    · have e0 : decide ((k : Int) < s.size) = true := by simpa using hlt
      cases hd : digB s[k]
      · have hi : digI (s[k].toNat : Int) = false := by rw [digI_digB, hd]
        have hn := Lib.hid (not_all s k hlt hd)
        clear hd
        go_wp2_with (go_at_call 134; refine (refDigit_any _ _).mono ?_; rintro e w' ⟨rfl, rfl⟩)
        go_ret
        exact ⟨by rw [hn.out]; rfl, rfl⟩
      · have hi : digI (s[k].toNat : Int) = true := by rw [digI_digB, hd]
        have hn := Lib.hid (take_all s k hlt hp.out hd)
        clear hd
        go_wp2_with (go_at_call 134; refine (refDigit_any _ _).mono ?_; rintro e w' ⟨rfl, rfl⟩)
        go_round
        case rel => exact ⟨k + 1, by omega, by go_num, hn⟩
        case measure => simp [intOf]; omega
    · obtain rfl : k = s.size := by omega
      have hn := Lib.hid ((yes_all s hp.out).trans (isEmpty_size s))
      go_wp2
      go_ret
      exact ⟨by rw [hn.out]; rfl, rfl⟩

/-- What the closure of Show takes off. -/
theorem neg_tmod (m : Nat) : -((-(m : Int)).tmod 10) = ((m % 10 : Nat) : Int) := by
  rw [Int.neg_tmod, Int.neg_neg]
  exact (Int.ofNat_tmod m 10).symm

theorem neg_tdiv (m : Nat) : (-(m : Int)).tdiv 10 = -((m / 10 : Nat) : Int) := by
  rw [Int.neg_tdiv]
  congr 1

set_option maxHeartbeats 1000000 in
theorem takeLast_any (m : Nat) (hm : m ≤ 9223372036854775808) (B : Nat) (w : World) (hB : Boxed w B 3 (.int .i64 (-(m : Int)))) :
    Calls Tryz.prog 117 #[.pointer (some ⟨B, 0, none⟩)] w fun e w' => e = .returned (.int .u8 ((digC (m % 10)).toNat : Int)) ∧ w.setCell ⟨B, 0, none⟩ (.int .i64 (-((m / 10 : Nat) : Int))) = w' := by
  have hc := hB.cell
  have hf := hB.frozen
  have e1 := neg_tmod m
  have e2 := neg_tdiv m
  have hv := Lib.hid (show ((digC (m % 10)).toNat : Int) = 48 + (m : Int) % 10 by rw [digC_toNat _ (by omega)]; omega)
  have hq := Lib.hid (show ((m / 10 : Nat) : Int) = (m : Int) / 10 by omega)
  go_enter Tryz.func117, Tryz.ntmps117
  go_wp2
  go_ret
  exact ⟨by rw [hv.out]; rfl, by rw [hq.out]⟩

set_option maxHeartbeats 1000000 in
theorem takeFirst_any (s : ByteArray) (h0 : 0 < s.size) (hs : s.size ≤ maxLen) (hd : digB s[0] = true) (B : Nat) (w : World) (hB : Boxed w B 9 (.string s)) :
    Calls Tryz.prog 181 #[.pointer (some ⟨B, 0, none⟩)] w fun e w' => e = .returned (.int .i64 ((s[0].toNat - 48 : Nat) : Int)) ∧ w.setCell ⟨B, 0, none⟩ (.string (s.extract 1 s.size)) = w' := by
  unfold maxLen at hs
  have hc := hB.cell
  have hf := hB.frozen
  obtain ⟨d1, d2⟩ := digB_iff.1 hd
  have hv := Lib.hid (show ((s[0].toNat - 48 : Nat) : Int) = (s[0].toNat : Int) - 48 by omega)
  go_enter Tryz.func181, Tryz.ntmps181
  go_wp2
  go_ret
  exact ⟨by rw [hv.out]; rfl, rfl⟩



theorem wp_scope_label {P : Program} {a : Act} {w : World} {Q : Exit → Act → World → Prop} {c rest : Code} (l : Nat) (J : Act → World → Prop) (μ : Act → World → Nat) (hf : findLabel c l = some (Code.skip.seq rest))
    (pass : ∀ a w, J a w → rest.wp P (Exit.jump l (fun a' w' => J a' w' ∧ μ a' w' < μ a w) Q) a w)
    (first : (∀ a w, J a w → rest.wp P (Exit.jump l J Q) a w) → c.wp P (Exit.jump l J Q) a w) : (Code.scope c).wp P Q a w := by
  refine wp_scope_jumps l J μ hf (first fun a w h => wp_mono (pass a w h) fun e a' w' he => ?_) fun a w h => wp_seq (wp_skip (pass a w h))
  cases e with
  | goto l' => exact ⟨he.1, he.2.1⟩
  | normal => exact he
  | exit id => exact he
  | ret => exact he
  | panic ch => exact he
  | outgrown => exact he




def boxS (B : Nat) (w : World) : Nat := match w.cell? ⟨B, 0, none⟩ with
  | some (.string s) => s.size
  | _ => 0

theorem boxS_of {B : Nat} {w : World} {s : ByteArray} (h : Boxed w B 9 (.string s)) : boxS B w = s.size := by
  unfold boxS
  rw [h.cell]

/-- What holds at the label. -/
def ReadAt (s : ByteArray) (most : Int) (B : Nat) (w0 : World) (a : Act) (w : World) : Prop :=
  ∃ (r : ByteArray) (acc : Nat) (u9 u15 u16 u17 u18 u19 u20 u21 u22 u23 u24 u25 u26 u27 : Value),
    a = { tmps := #[.string s, .int .i64 most, undef, undef, .int .i64 0, .bool false, .int .i64 (acc : Int), .pointer (some ⟨B, 0, none⟩), .func (.func 181) #[] #[.pointer (some ⟨B, 0, none⟩)], u9, .string s, .bool true, .bool false, .string s, .func (.func 181) #[] #[.pointer (some ⟨B, 0, none⟩)], u15, u16, u17, u18, u19, u20, u21, u22, u23, u24, u25, u26, u27, undef], defers := [] } ∧
    Boxed w B 9 (.string r) ∧ 0 < r.size ∧ r.size ≤ maxLen ∧ acc ≤ 9223372036854775807 ∧ Hid (r.data.toList.all digB = true) ∧ Hid (valN s.data.toList = valF acc r.data.toList) ∧ Below w0.heap.size w0 w

theorem first_cons (r : ByteArray) (h : 0 < r.size) : r.data.toList = r[0] :: (r.extract 1 r.size).data.toList := by
  have e : r.data.toList = r[0] :: r.data.toList.drop 1 := List.drop_eq_getElem_cons (l := r.data.toList) (i := 0) h
  have e2 : (r.extract 1 r.size).data.toList = r.data.toList.drop 1 := by
    rw [ByteArray.data_extract, Array.toList_extract, List.extract_eq_take_drop, List.take_of_length_le]
    rw [List.length_drop]
    exact Nat.le_refl _
  rw [e2]
  exact e

theorem takeFirst_at (r q : ByteArray) (d : Nat) (h0 : 0 < r.size) (hs : r.size ≤ maxLen) (hq : q = r.extract 1 r.size) (hd : digB r[0] = true) (hdv : d = r[0].toNat - 48) (B : Nat) (w : World) (hB : Boxed w B 9 (.string r)) :
    Calls Tryz.prog 181 #[.pointer (some ⟨B, 0, none⟩)] w fun e w' => e = .returned (.int .i64 (d : Int)) ∧ w.setCell ⟨B, 0, none⟩ (.string q) = w' := by
  subst hq; subst hdv
  exact takeFirst_any r h0 hs hd B w hB

theorem isEmpty_iff (q : ByteArray) : q.toList.isEmpty = decide (q.size = 0) := by
  rw [ByteArray.toList_eq]
  have h : q.data.toList.length = q.size := rfl
  cases hl : q.data.toList with
  | nil => rw [hl] at h; simp at h; simp [← h]
  | cons a r => rw [hl] at h; simp at h; simp [← h]

theorem read_no (l : List UInt8) (most : Int) (hp : plainB l = true) (x : Nat) (hx : x ≤ valN l) (h : most < x) : readB l most = false ∧ readI l most = 0 := by
  have : readB l most = false := by unfold readB; rw [hp]; simp; omega
  exact ⟨this, by unfold readI; rw [this]; rfl⟩

theorem read_yes (l : List UInt8) (most : Int) (hp : plainB l = true) (x : Nat) (hx : valN l = x) (h : (x : Int) ≤ most) : readB l most = true ∧ readI l most = x := by
  have : readB l most = true := by unfold readB; rw [hp, hx]; simpa using h
  exact ⟨this, by unfold readI; rw [this, if_pos rfl, hx]⟩

theorem read_notplain (l : List UInt8) (most : Int) (hp : plainB l = false) : readB l most = false ∧ readI l most = 0 := by
  have : readB l most = false := by unfold readB; rw [hp]; rfl
  exact ⟨this, by unfold readI; rw [this]; rfl⟩

set_option maxHeartbeats 4000000 in
set_option maxRecDepth 100000 in
theorem read_calls (s : ByteArray) (hs : s.size ≤ maxLen) (most : Int) (m1 : most ≤ 9223372036854775807) (w : World) :
    Calls Tryz.prog 157 #[.string s, .int .i64 most] w fun e W' => e = .returned (.tuple #[.int .i64 (readI s.data.toList most), .bool (readB s.data.toList most)]) ∧ Below w.heap.size w W' := by
  cases hp : plainB s.data.toList
  · have hno := Lib.hid (read_notplain _ most hp)
    go_enter Tryz.func157, Tryz.ntmps157
    go_wp2
    go_step3
    go_wp2_with (go_at_call 180; refine (plain_any s hs _).mono ?_; rintro e w' ⟨rfl, rfl⟩)
    rw [Exit.noGoto_ret]
    go_ret2
    exact ⟨by rw [hno.out.1, hno.out.2]; rfl, Below.refl _ _⟩
  · have HP := Lib.hid hp
    go_enter Tryz.func157, Tryz.ntmps157
    go_wp2
    refine wp_scope_label 0 (ReadAt s most w.heap.size w) (fun _ w' => boxS w.heap.size w') rfl ?_ ?_
    · rintro a W ⟨r, acc, u9, u15, u16, u17, u18, u19, u20, u21, u22, u23, u24, u25, u26, u27, rfl, hbox, hr0, hrs, hacc, hall, hval, hB⟩
      obtain ⟨q, hq⟩ : ∃ q, q = r.extract 1 r.size := ⟨_, rfl⟩
      obtain ⟨d, hd⟩ : ∃ d, d = r[0].toNat - 48 := ⟨_, rfl⟩
      have hcons := first_cons r hr0
      rw [← hq] at hcons
      have hdig : digB r[0] = true ∧ q.data.toList.all digB = true := by
        have := hall.out
        rw [hcons] at this
        simpa using this
      have hval2 := hval.out
      rw [hcons, valF_cons, ← hd] at hval2
      have hd9 : d ≤ 9 := by have := digB_iff.1 hdig.1; omega
      have hqs : q.size < r.size := by rw [hq]; simp; omega
      obtain ⟨acc', hacc'⟩ : ∃ x, x = 10 * acc + d := ⟨_, rfl⟩
      rw [← hacc'] at hval2
      have hge := valF_ge acc' q.data.toList
      rw [← hval2] at hge
      obtain ⟨W1, hW1⟩ : ∃ W1, W1 = W.setCell ⟨w.heap.size, 0, none⟩ (.string q) := ⟨_, rfl⟩
      have hbox1 : Boxed W1 w.heap.size 9 (.string q) := by rw [hW1]; exact hbox.set _
      have hc1 := hbox1.cell
      have hB1 : Below w.heap.size w W1 := by rw [hW1]; exact hB.setCell (p := ⟨w.heap.size, 0, none⟩) (Nat.le_refl _) (.string q)
      have hμ := Lib.hid (boxS_of hbox)
      have HQ := Lib.hid hq
      have HD := Lib.hid hd
      have HBOX := Lib.hid hbox
      have HW1 := Lib.hid hW1
      have HDIG := Lib.hid hdig
      have HV := Lib.hid hval2
      have hdec : decide (10 * (acc : Int) + d ≤ most) = decide ((acc' : Int) ≤ most) := by rw [hacc']; simp
      have hsum : (acc : Int) * 10 + d = acc' := by omega
      by_cases hf : (acc' : Int) ≤ most
      · have f1 : decide (10 * (acc : Int) + d ≤ most) = true := by rw [hdec]; simpa using hf
        have hb10 : (acc : Int) * 10 ≤ 9223372036854775807 := by omega
        cases he : q.toList.isEmpty
        · clear hq hd hbox hW1 hdig hval2 hcons hdec hacc' hge hB
          go_wp2_with (first | (go_at_call 181; refine (takeFirst_at r q d hr0 hrs HQ.out HDIG.out.1 HD.out _ _ HBOX.out).mono ?_; rintro e w' ⟨rfl, hw'⟩; obtain rfl := HW1.out.trans hw') | (go_at_call 182; refine (fits_any _ _ _ (by omega) (by omega) (by omega) m1 _).mono ?_; rintro e w' ⟨rfl, rfl⟩))
          go_step3
          have hq0 : 0 < q.size := by
            rcases Nat.eq_zero_or_pos q.size with h | h
            · rw [isEmpty_iff, h] at he; cases he
            · exact h
          refine ⟨rfl, ⟨q, acc', _, _, _, _, _, _, _, _, _, _, _, _, _, _, rfl, hbox1, hq0, by omega, by omega, Lib.hid HDIG.out.2, HV, hB1⟩, ?_⟩
          rw [boxS_of hbox1, hμ.out]
          exact hqs
        · clear hq hd hbox hW1 hdig hval2 hcons hdec hacc' hge hB
          go_wp2_with (first | (go_at_call 181; refine (takeFirst_at r q d hr0 hrs HQ.out HDIG.out.1 HD.out _ _ HBOX.out).mono ?_; rintro e w' ⟨rfl, hw'⟩; obtain rfl := HW1.out.trans hw') | (go_at_call 182; refine (fits_any _ _ _ (by omega) (by omega) (by omega) m1 _).mono ?_; rintro e w' ⟨rfl, rfl⟩))
          have hq0 : q.data.toList = [] := by rw [ByteArray.toList_eq] at he; simpa using he
          have hyes := read_yes _ most HP.out acc' (by rw [HV.out, hq0, valF_nil]) hf
          simp only [Exit.jump]
          go_ret2
          exact ⟨by rw [hyes.1, hyes.2]; rfl, hB1⟩
      · have f1 : decide (10 * (acc : Int) + d ≤ most) = false := by rw [hdec]; simpa using hf
        have hno := Lib.hid (read_no _ most HP.out acc' hge (by omega))
        clear hq hd hbox hW1 hdig hval2 hcons hdec hacc' hge hB hsum
        go_wp2_with (first | (go_at_call 181; refine (takeFirst_at r q d hr0 hrs HQ.out HDIG.out.1 HD.out _ _ HBOX.out).mono ?_; rintro e w' ⟨rfl, hw'⟩; obtain rfl := HW1.out.trans hw') | (go_at_call 182; refine (fits_any _ _ _ (by omega) (by omega) (by omega) m1 _).mono ?_; rintro e w' ⟨rfl, rfl⟩))
        simp only [Exit.jump]
        go_ret2
        exact ⟨by rw [hno.out.1, hno.out.2]; rfl, hB1⟩
    · intro hpass
      go_wp2_with (go_at_call 180; refine (plain_any s hs _).mono ?_; rintro e w' ⟨rfl, rfl⟩)
      go_step3
      rename_i K hK
      have h0 : 0 < s.size ∧ s.data.toList.all digB = true := by
        have := HP.out
        unfold plainB at this
        have hl : s.data.toList.length = s.size := rfl
        cases he : s.data.toList with
        | nil => rw [he] at this; cases this
        | cons a r =>
          rw [he] at this hl
          simp at this hl
          refine ⟨by omega, by simpa using this⟩
      refine hK _ _ (hpass _ _ ⟨s, 0, _, _, _, _, _, _, _, _, _, _, _, _, _, _, rfl, Boxed.new w 9 (.string s), h0.1, hs, by omega, Lib.hid h0.2, Lib.hid rfl, (Below.refl _ w).alloc (Nat.le_refl _) _⟩)



open Go.RowKit Go.Sort


/-- A byte as a value. -/
def u8v (x : UInt8) : Value := .int .u8 (x.toNat : Int)

theorem holds_owned {w : World} {base g cap : Nat} {l : List UInt8} (h : w.ownsRow base 5 1 (.slice (some ⟨g, 0, none⟩) l.length cap) l.length (l.map u8v)) : Holds u8v w g 0 l.toArray := by
  rcases h.2 with ⟨e, _⟩ | ⟨g', cap', cur, e, _, hb, _, _, _, ht⟩
  · cases e
  cases e
  intro j hj
  have hj' : j < l.length := by simpa using hj
  refine ⟨?_, by simp [World.frozen?, hb]⟩
  have h1 : (cur.toList.take (l.length * 1))[j]? = (l.map u8v)[j]? := by rw [ht]
  rw [List.getElem?_take_of_lt (by omega)] at h1
  simp only [World.cell?, hb, Nat.zero_add]
  simp only [Option.isSome_none, Bool.false_eq_true, if_false]
  rw [← Array.getElem?_toList, h1]
  simp [hj']

theorem take_put (cur : Array Value) (ts : List UInt8) (h : ts.length ≤ cur.size) : (putCells u8v 0 ts.toArray cur).toList.take ts.length = ts.map u8v := by
  apply List.ext_getElem?
  intro j
  by_cases hj : j < ts.length
  · rw [List.getElem?_take_of_lt hj, Array.getElem?_toList]
    simp [putCells, hj, show j < cur.size by omega]
  · rw [List.getElem?_take_eq_none (by omega), List.getElem?_eq_none (by simp; omega)]

theorem owned_put {w : World} {base g cap n : Nat} {l ts : List UInt8} (hl : ts.length = l.length) (h : w.ownsRow base 5 1 (.slice (some ⟨g, 0, none⟩) l.length cap) l.length (l.map u8v)) :
    (putRow u8v (Sort.ahead w n) g 0 ts.toArray).ownsRow base 5 1 (.slice (some ⟨g, 0, none⟩) l.length cap) l.length (ts.map u8v) := by
  rcases h.2 with ⟨e, _⟩ | ⟨g', cap', cur, e, hbase, hb, h1, h2, h3, ht⟩
  · cases e
  cases e
  refine ⟨by simp [hl], .inr ⟨g, cap, putCells u8v 0 ts.toArray cur, rfl, hbase, ?_, h1, h2, by simp [putCells, h3], ?_⟩⟩
  · simp [putRow, mapBlock, Sort.ahead, Array.getElem?_modify, hb, onCells]
  · rw [Nat.mul_one, ← hl]
    exact take_put cur ts (by omega)

theorem grown_put {w : World} {g n : Nat} (d : Array UInt8) : w.grownBy (putRow u8v (Sort.ahead w n) g 0 d) (some g) := by
  refine ⟨rfl, rfl, rfl, by simp, fun k hk hne => ?_⟩
  have : g ≠ k := fun e => hne (by rw [e])
  simp [putRow, mapBlock, Sort.ahead, Array.getElem?_modify, this]

set_option maxHeartbeats 1600000 in
set_option maxRecDepth 100000 in
theorem reverse_row (g cap : Nat) (d : Array UInt8) (w : World) (hH : Holds u8v w g 0 d) (hsz : d.size ≤ 9223372036854775807) :
    Calls Tryz.prog 118 #[.slice (some ⟨g, 0, none⟩) d.size cap] w fun e w' => e = .returned (.tuple #[]) ∧ ∃ n, w' = putRow u8v (Sort.ahead w n) g 0 d.reverse := by
  go_enter Tryz.func118, Tryz.ntmps118
  go_wp2
  go_loopg [2, 3] d.size (fun m s2 s3 wr => ∃ (i j n : Nat) (z : Int) (c : Array UInt8), s2 = .int .i64 i ∧ s3 = .int .i64 z ∧ ((i : Int) < z → z = j ∧ j < d.size) ∧ (¬ (i : Int) < z → ¬ i < j) ∧ j - i ≤ m ∧
    c.size = d.size ∧ wr = putRow u8v (Sort.ahead w n) g 0 c ∧ reverseLoop i j c = reverseLoop 0 (d.size - 1) d)
  case atStart => exact ⟨0, d.size - 1, 0, (d.size : Int) - 1, d, rfl, rfl, fun h => ⟨by omega, by omega⟩, fun h => by omega, by omega, rfl, (putRow_self u8v w g 0 d hH).symm, rfl⟩
  case round =>
    obtain ⟨i, j, n, z, c, rfl, rfl, h1, h2, hk, hds, hwr, heq⟩ := hrel
    by_cases hlt : (i : Int) < z
    · obtain ⟨rfl, hjn⟩ := h1 hlt
      have hij : i < j := by omega
      have hHc : Holds u8v wr g 0 c := by rw [hwr]; exact holds_putRow u8v _ g 0 d c (holds_ahead u8v w n g 0 d hH) hds
      obtain ⟨ci, fi⟩ := hHc i (by omega)
      obtain ⟨cj, fj⟩ := hHc j (by omega)
      rw [Nat.zero_add] at ci fi cj fj
      unfold u8v at ci cj
      have A := Lib.hid hwr
      clear hwr hHc hH h1 h2
      go_wp2_with fail
      go_region
      go_wp2
      go_roundg (j - 1 - (i + 1))
      case measure => omega
      case rel =>
        rw [reverseLoop, if_pos hij] at heq
        refine ⟨i + 1, j - 1, n + 1, (j : Int) - 1, swp c i j, by simp, rfl, fun h => ⟨by omega, by omega⟩, fun h => by omega, Nat.le_refl _, by rw [size_swp]; exact hds, ?_, heq⟩
        have hs := swap_world u8v (i := i) (j := j) (by omega) (by omega) A.out rfl rfl
        rw [Nat.zero_add, Nat.zero_add] at hs
        rw [← hs]
        unfold u8v
        rw [getElem!_pos c j (by omega)]
    · have hnot := h2 hlt
      go_wp2
      go_end0
      refine ⟨rfl, n, ?_⟩
      rw [reverseLoop, if_neg hnot] at heq
      rw [← Lib.reverseLoop_reverse, ← heq]

theorem reverse_any (g cap base : Nat) (l : List UInt8) (hl : l.length ≤ 9223372036854775807) (w : World) (h : w.ownsRow base 5 1 (.slice (some ⟨g, 0, none⟩) l.length cap) l.length (l.map u8v)) :
    Calls Tryz.prog 118 #[.slice (some ⟨g, 0, none⟩) l.length cap] w fun e w' => e = .returned (.tuple #[]) ∧ w'.ownsRow base 5 1 (.slice (some ⟨g, 0, none⟩) l.length cap) l.length (l.reverse.map u8v) ∧ w.grownBy w' (some g) := by
  have := reverse_row g cap l.toArray w (holds_owned h) (by simpa using hl)
  rw [List.size_toArray] at this
  refine this.mono ?_
  rintro e w' ⟨he, n, rfl⟩
  rw [List.reverse_toArray]
  exact ⟨he, owned_put (by simp) h, grown_put _⟩




def boxN (B : Nat) (w : World) : Nat := match w.cell? ⟨B, 0, none⟩ with
  | some (.int _ q) => q.natAbs
  | _ => 0

theorem boxN_of {B : Nat} {w : World} {m : Nat} (h : Boxed w B 3 (.int .i64 (-(m : Int)))) : boxN B w = m := by
  unfold boxN
  rw [h.cell]
  simp

/-- A slice of bytes that the call owns, as a text. -/
theorem conv_owned {W : World} {base : Nat} {v : Value} {k : Nat} {l : List UInt8} (h : W.ownsRow base 5 1 v k (l.map u8v)) : (convert 81 9 v).run Tryz.prog W = .ok (.string ⟨l.toArray⟩) W := by
  have hl : l.length = k := by simpa using h.1
  rcases h.2 with ⟨rfl, rfl⟩ | ⟨g, cap, cur, rfl, _, hg, _, _, hcs, htk⟩
  · obtain rfl : l = [] := List.length_eq_zero_iff.1 hl
    exact run_convert_bytes_nil W 81 5 Tryz.underlying81 Tryz.underlying5 0 0 9 Tryz.underlying9
  · subst hl
    refine run_convert_bytes_back W 81 9 5 ⟨g, 0, none⟩ cap l Tryz.underlying81 Tryz.underlying5 Tryz.underlying9 ?_
    intro j hj
    have e : (⟨g, 0, none⟩ : Addr).add j = ⟨g, j, none⟩ := by unfold Addr.add; split <;> simp_all
    rw [e]
    have h1 : cur[j]? = some (u8v l[j]) := by
      have h2 : (cur.toList.take (l.length * 1))[j]? = (l.map u8v)[j]? := by rw [htk]
      rw [List.getElem?_take_of_lt (by omega), List.getElem?_map, List.getElem?_eq_getElem hj] at h2
      simpa using h2
    simp [World.cell?, hg, h1, u8v]

theorem Tryz.infoByte : (Tryz.prog.info? 5).map (fun i => (i.zero, i.size, i.bytes)) = some (some (.int .u8 0), 1, 1) := by kernel_rfl

theorem takeLast_at (m q : Nat) (d : UInt8) (hq : q = m / 10) (hd : d = digC (m % 10)) (hm : m ≤ 9223372036854775808) (B : Nat) (w : World) (hB : Boxed w B 3 (.int .i64 (-(m : Int)))) :
    Calls Tryz.prog 117 #[.pointer (some ⟨B, 0, none⟩)] w fun e w' => e = .returned (.int .u8 (d.toNat : Int)) ∧ w.setCell ⟨B, 0, none⟩ (.int .i64 (-(q : Int))) = w' := by
  subst hq; subst hd
  exact takeLast_any m hm B w hB

/-- What holds at the label. -/
def ShowAt (n : Int) (B : Nat) (w0 : World) (a : Act) (w : World) : Prop :=
  ∃ (m : Nat) (v : Value) (tl : List UInt8) (u8 u9 u10 u12 u13 u14 u15 u16 u17 u18 : Value),
    a = { tmps := #[.int .i64 n, undef, .string ⟨#[]⟩, .pointer (some ⟨B, 0, none⟩), .func (.func 117) #[] #[.pointer (some ⟨B, 0, none⟩)], v, .int .i64 n, .int .i64 n, u8, u9, u10, .func (.func 117) #[] #[.pointer (some ⟨B, 0, none⟩)], u12, u13, u14, u15, u16, u17, u18, undef, undef, undef, undef, undef, undef, undef, undef, undef], defers := [] } ∧
    Boxed w B 3 (.int .i64 (-(m : Int))) ∧ w.ownsRow w0.heap.size 5 1 v tl.length (tl.map u8v) ∧ m ≤ 9223372036854775808 ∧ Hid (showN n.natAbs = showN m ++ tl.reverse) ∧ Below w0.heap.size w0 w

theorem showI_end (n : Int) (h : 0 ≤ n) (l : List UInt8) (e : showN n.natAbs = l.reverse) : showI n = l.reverse := by
  rw [showI_nonneg h, ← e]
  congr 1
  omega

theorem showI_end' (n : Int) (h : n < 0) (l : List UInt8) (e : showN n.natAbs = l.reverse) : showI n = (l ++ [45]).reverse := by
  rw [showI_neg h, e]
  simp

theorem shown_more (N m q : Nat) (d : UInt8) (tl : List UInt8) (hq : q = m / 10) (hd : d = digC (m % 10)) (h : showN N = showN m ++ tl.reverse) (h0 : q ≠ 0) : showN N = showN q ++ (tl ++ [d]).reverse := by
  rw [h, showN_ge (n := m) (by omega), ← hq, ← hd]
  simp

theorem shown_last (N m q : Nat) (d : UInt8) (tl : List UInt8) (hq : q = m / 10) (hd : d = digC (m % 10)) (h : showN N = showN m ++ tl.reverse) (h0 : q = 0) : showN N = (tl ++ [d]).reverse := by
  rw [h, showN_lt (n := m) (by omega), hd, show m % 10 = m by omega]
  simp

theorem shown_short (n : Int) (h0 : -9223372036854775808 ≤ n) (h1 : n ≤ 9223372036854775807) (m : Nat) (tl : List UInt8) (h : showN n.natAbs = showN m ++ tl.reverse) : tl.length ≤ 18 := by
  have a := showN_len n.natAbs (by omega)
  have b := showN_pos m
  rw [h] at a
  simp at a
  omega

/-- The frame of the box and of the row behind 'turned = append(turned, x)'. -/
theorem appended_at {W w2 : World} {base B : Nat} {u : Value} {v v' : Value} {k : Nat} {xs ys : List Value} {o : Obj} (hbox : Boxed W B 3 u) (hrow : W.ownsRow base 5 1 v k xs) (hb : base ≤ W.heap.size)
    (hown' : w2.ownsRow base 5 1 v' (k + 1) ys) (hgrow : (W.alloc o).grownBy w2 v.ownBlock) : Boxed w2 B 3 u ∧ Below base W w2 := by
  refine ⟨(hbox.alloc o).kept hgrow (hbox.not_row (by decide) hrow), ((Below.refl base W).alloc hb o).grown hgrow (by simp; omega) fun j ej => ?_⟩
  rcases hrow.2 with ⟨rfl, _⟩ | ⟨g, cap, cur, rfl, hb, _, _⟩
  · simp [Value.ownBlock] at ej
  · obtain rfl : g = j := by simpa [Value.ownBlock] using ej
    exact hb

theorem row_base {W : World} {base g k cap : Nat} {xs : List Value} (h : W.ownsRow base 5 1 (.slice (some ⟨g, 0, none⟩) k cap) k xs) : base ≤ g := by
  rcases h.2 with ⟨e, _⟩ | ⟨g', cap', cur, e, hb, _⟩
  · cases e
  · cases e; exact hb

theorem reverse_at (g cap base k : Nat) (l : List UInt8) (hk : l.length = k) (hl : k ≤ 100) (w0 w : World) (h : w.ownsRow base 5 1 (.slice (some ⟨g, 0, none⟩) k cap) k (l.map u8v)) (hB : Below base w0 w) (hs : base ≤ w.heap.size) :
    Calls Tryz.prog 118 #[.slice (some ⟨g, 0, none⟩) k cap] w fun e w' => e = .returned (.tuple #[]) ∧ (convert 81 9 (.slice (some ⟨g, 0, none⟩) k cap)).run Tryz.prog w' = .ok (.string ⟨l.reverse.toArray⟩) w' ∧ Below base w0 w' := by
  subst hk
  refine (reverse_any g cap base l (by omega) w h).mono ?_
  rintro e w' ⟨he, hr, hg⟩
  exact ⟨he, conv_owned hr, hB.grown hg hs (fun j ej => by cases ej; exact row_base h)⟩

set_option maxHeartbeats 4000000 in
set_option maxRecDepth 100000 in
theorem show_calls (n : Int) (h0 : -9223372036854775808 ≤ n) (h1 : n ≤ 9223372036854775807) (w : World) :
    Calls Tryz.prog 91 #[.int .i64 n] w fun e W' => e = .returned (.string ⟨(showI n).toArray⟩) ∧ Below w.heap.size w W' := by
  obtain ⟨i0, hi, hz0, hz1, hz2⟩ := info_parts Tryz.infoByte
  go_enter Tryz.func91, Tryz.ntmps91
  go_wp2
  refine wp_scope_label 0 (ShowAt n w.heap.size w) (fun _ w' => boxN w.heap.size w') rfl ?_ ?_
  · rintro a W ⟨m, v, tl, u8, u9, u10, u12, u13, u14, u15, u16, u17, u18, rfl, hbox, hrow, hm, heq, hB⟩
    obtain ⟨q, hq⟩ : ∃ q, q = m / 10 := ⟨_, rfl⟩
    obtain ⟨d, hd⟩ : ∃ d, d = digC (m % 10) := ⟨_, rfl⟩
    have hlen := shown_short n h0 h1 m tl heq.out
    have hμ := Lib.hid (boxN_of hbox)
    obtain ⟨W1, hW1⟩ : ∃ W1, W1 = W.setCell ⟨w.heap.size, 0, none⟩ (.int .i64 (-(q : Int))) := ⟨_, rfl⟩
    have hbox1 : Boxed W1 w.heap.size 3 (.int .i64 (-(q : Int))) := by rw [hW1]; exact hbox.set _
    have hrow1 : W1.ownsRow w.heap.size 5 1 v tl.length (tl.map u8v) := by rw [hW1]; exact hrow.kept (grownBy_setCell' W w.heap.size (.int .i64 (-(q : Int)))) (.inr (hbox.not_row (by decide) hrow).symm)
    have hB1 : Below w.heap.size w W1 := by rw [hW1]; exact hB.setCell (p := ⟨w.heap.size, 0, none⟩) (Nat.le_refl _) (.int .i64 (-(q : Int)))
    have hb2 : tl.length + 1 ≤ maxLen := by unfold maxLen; omega
    have hb3 : (tl.length + 1) * 1 ≤ 140737488355328 := by omega
    have hb4 : tl.length + 1 + 1 ≤ maxLen := by unfold maxLen; omega
    have hb5 : (tl.length + 1 + 1) * 1 ≤ 140737488355328 := by omega
    have hsz := hB1.size
    have hsz1 : w.heap.size ≤ (W1.alloc (.cells #[.int .u8 (d.toNat : Int)] 5)).heap.size := by simp; omega
    have hone : ∀ u ∈ [Value.int .u8 (d.toNat : Int)], u.oneCell' = true := by simp [Value.oneCell']
    have hone2 : ∀ u ∈ [Value.int .u8 45], u.oneCell' = true := by simp [Value.oneCell']
    have hQ := Lib.hid hq
    have hD := Lib.hid hd
    have hBOX := Lib.hid hbox
    have HW1 := Lib.hid hW1
    by_cases hz : q = 0
    · have hlast := Lib.hid (shown_last n.natAbs m q d tl hq hd heq.out hz)
      have t1 : (-(q : Int) != 0) = false := by simp; omega
      have HL := Lib.hid (show tl.length + 1 ≤ 100 ∧ tl.length + 1 + 1 ≤ 100 by omega)
      clear hq hd heq hbox hrow hB hW1 hz hμ
      by_cases hn : n < 0
      · have t2 : decide (n < 0) = true := by simpa using hn
        have hend := Lib.hid (show showI n = 45 :: d :: tl.reverse by rw [showI_end' n hn _ hlast.out]; simp)
        go_wp2_with (first | (go_at_call 117; refine (takeLast_at m q d hQ.out hD.out hm _ _ hBOX.out).mono ?_; rintro e w' ⟨rfl, hw'⟩; obtain rfl := HW1.out.trans hw') | (at_builtin; refine wpList_append_own _ rfl _ _ 81 rfl w.heap.size 5 i0 (.int .u8 0) 1 1 Tryz.underlying81 hi hz0 hz1 hz2 rfl (by decide) _ _ _ rfl (hrow1.alloc _) ⟨W1.heap.size, 0, none⟩ 1 1 [.int .u8 (d.toNat : Int)] rfl rfl (cell_one_new _ _ _) hone hb2 hb3 hsz1 ?_; intro v' w2 hown' hgrow _; obtain ⟨hbox2, hB2⟩ := appended_at hbox1 hrow1 hsz hown' hgrow; have hc2 := hbox2.cell; obtain ⟨g', cap', rfl⟩ := ownsRow_succ hown'; have hs2 := Nat.le_trans hsz hB2.size; have hsz2 : w.heap.size ≤ (w2.alloc (.cells #[.int .u8 45] 5)).heap.size := (by simp; omega)) | (at_builtin; refine wpList_append_own _ rfl _ _ 81 rfl w.heap.size 5 i0 (.int .u8 0) 1 1 Tryz.underlying81 hi hz0 hz1 hz2 rfl (by decide) _ _ _ rfl (hown'.alloc _) ⟨w2.heap.size, 0, none⟩ 1 1 [.int .u8 45] rfl rfl (cell_one_new _ _ _) hone2 hb4 hb5 hsz2 ?_; intro v'' w3 hown'' hgrow2 _; obtain ⟨hbox3, hB3⟩ := appended_at hbox2 hown' hs2 hown'' hgrow2; obtain ⟨g'', cap'', rfl⟩ := ownsRow_succ hown''; have hs3 := Nat.le_trans hs2 hB3.size; have hr : w3.ownsRow w.heap.size 5 1 (.slice (some ⟨g'', 0, none⟩) (tl.length + 1 + 1) cap'') (tl.length + 1 + 1) ((tl ++ [d] ++ [45]).map u8v) := (by simpa [u8v] using hown'')) | (go_at_call 118; refine (reverse_at g'' cap'' w.heap.size (tl.length + 1 + 1) _ (by simp) HL.out.2 w w3 hr ((hB1.trans hB2).trans hB3) hs3).mono ?_; rintro e w4 ⟨rfl, hcv, hB4⟩))
        simp only [Exit.jump]
        go_ret
        exact ⟨by rw [hend.out]; rfl, hB4⟩
      · have t2 : decide (n < 0) = false := by simpa using hn
        have hend := Lib.hid (show showI n = d :: tl.reverse by rw [showI_end n (by omega) _ hlast.out]; simp)
        go_wp2_with (first | (go_at_call 117; refine (takeLast_at m q d hQ.out hD.out hm _ _ hBOX.out).mono ?_; rintro e w' ⟨rfl, hw'⟩; obtain rfl := HW1.out.trans hw') | (at_builtin; refine wpList_append_own _ rfl _ _ 81 rfl w.heap.size 5 i0 (.int .u8 0) 1 1 Tryz.underlying81 hi hz0 hz1 hz2 rfl (by decide) _ _ _ rfl (hrow1.alloc _) ⟨W1.heap.size, 0, none⟩ 1 1 [.int .u8 (d.toNat : Int)] rfl rfl (cell_one_new _ _ _) hone hb2 hb3 hsz1 ?_; intro v' w2 hown' hgrow _; obtain ⟨hbox2, hB2⟩ := appended_at hbox1 hrow1 hsz hown' hgrow; have hc2 := hbox2.cell; obtain ⟨g', cap', rfl⟩ := ownsRow_succ hown'; have hs2 := Nat.le_trans hsz hB2.size; have hr : w2.ownsRow w.heap.size 5 1 (.slice (some ⟨g', 0, none⟩) (tl.length + 1) cap') (tl.length + 1) ((tl ++ [d]).map u8v) := (by simpa [u8v] using hown')) | (go_at_call 118; refine (reverse_at g' cap' w.heap.size (tl.length + 1) _ (by simp) HL.out.1 w w2 hr (hB1.trans hB2) hs2).mono ?_; rintro e w4 ⟨rfl, hcv, hB4⟩))
        simp only [Exit.jump]
        go_ret
        exact ⟨by rw [hend.out]; rfl, hB4⟩
    · have t1 : (-(q : Int) != 0) = true := by simp; omega
      have hmore := Lib.hid (shown_more n.natAbs m q d tl hq hd heq.out hz)
      have hlt := Lib.hid (show q < m ∧ q ≤ 9223372036854775808 by omega)
      clear hq hd heq hbox hrow hB hW1 hz
      go_wp2_with (first | (go_at_call 117; refine (takeLast_at m q d hQ.out hD.out hm _ _ hBOX.out).mono ?_; rintro e w' ⟨rfl, hw'⟩; obtain rfl := HW1.out.trans hw') | (at_builtin; refine wpList_append_own _ rfl _ _ 81 rfl w.heap.size 5 i0 (.int .u8 0) 1 1 Tryz.underlying81 hi hz0 hz1 hz2 rfl (by decide) _ _ _ rfl (hrow1.alloc _) ⟨W1.heap.size, 0, none⟩ 1 1 [.int .u8 (d.toNat : Int)] rfl rfl (cell_one_new _ _ _) hone hb2 hb3 hsz1 ?_; intro v' w2 hown' hgrow _; obtain ⟨hbox2, hB2⟩ := appended_at hbox1 hrow1 hsz hown' hgrow; have hc2 := hbox2.cell))
      go_step3
      refine ⟨rfl, ⟨q, v', tl ++ [d], _, _, _, _, _, _, _, _, _, _, rfl, hbox2, ?_, hlt.out.2, hmore, hB1.trans hB2⟩, ?_⟩
      · simpa [u8v] using hown'
      · rw [boxN_of hbox2, hμ.out]
        exact hlt.out.1
  · intro hpass
    cases p : decide (0 < n)
    · go_wp2
      go_step3
      rename_i K hK
      have hn : ¬ 0 < n := by simpa using p
      refine hK _ _ (hpass _ _ ⟨n.natAbs, _, [], _, _, _, _, _, _, _, _, _, _, rfl, ?_, ⟨rfl, .inl ⟨rfl, rfl⟩⟩, by omega, Lib.hid (by simp), ?_⟩)
      · have := Boxed.new w 3 (.int .i64 n)
        rw [show -((n.natAbs : Nat) : Int) = n by omega]
        exact this
      · exact (Below.refl _ w).alloc (Nat.le_refl _) _
    · have hn : 0 < n := by simpa using p
      go_wp2
      go_step3
      rename_i K hK
      refine hK _ _ (hpass _ _ ⟨n.natAbs, _, [], _, _, _, _, _, _, _, _, _, _, rfl, ?_, ⟨rfl, .inl ⟨rfl, rfl⟩⟩, by omega, Lib.hid (by simp), ?_⟩)
      · have := Boxed.new w 3 (.int .i64 (-n))
        rw [show -((n.natAbs : Nat) : Int) = -n by omega]
        exact this
      · exact (Below.refl _ w).alloc (Nat.le_refl _) _




theorem below2 {w u1 u2 : World} (h1 : Below w.heap.size w u1) (h2 : Below u1.heap.size u1 u2) : Below w.heap.size w u2 := h1.trans (h2.mono h1.size)

theorem below3 {w u1 u2 u3 : World} (h1 : Below w.heap.size w u1) (h2 : Below u1.heap.size u1 u2) (h3 : Below u2.heap.size u2 u3) : Below w.heap.size w u3 := below2 (below2 h1 h2) h3

theorem below4 {w u1 u2 u3 u4 : World} (h1 : Below w.heap.size w u1) (h2 : Below u1.heap.size u1 u2) (h3 : Below u2.heap.size u2 u3) (h4 : Below u3.heap.size u3 u4) : Below w.heap.size w u4 := below2 (below3 h1 h2 h3) h4

theorem digC_eq (n : Nat) (h : n < 10) (c : UInt8) (hc : c.toNat = 48 + n) : digC n = c := UInt8.toNat_inj.1 (by rw [digC_toNat n h, hc])

theorem show_120 : showI (-120) = [45, 49, 50, 48] := by
  rw [showI_neg (by omega), show ((-120 : Int).natAbs) = 120 by rfl, showN_ge (by omega), show 120 / 10 = 12 by rfl, show 120 % 10 = 0 by rfl, showN_ge (by omega), show 12 / 10 = 1 by rfl, show 12 % 10 = 2 by rfl, showN_lt (by omega),
    digC_eq 1 (by omega) 49 rfl, digC_eq 2 (by omega) 50 rfl, digC_eq 0 (by omega) 48 rfl]
  rfl

theorem show_0 : showI 0 = [48] := by
  rw [showI_nonneg (by omega), show (0 : Int).toNat = 0 by rfl, showN_zero]

theorem ex_read1 (w : World) : Calls Tryz.prog 157 #[.string ⟨#[48, 48, 56, 48]⟩, .int .i64 65535] w fun e W' => e = .returned (.tuple #[.int .i64 80, .bool true]) ∧ Below w.heap.size w W' := by
  have h1 : readI (⟨#[48, 48, 56, 48]⟩ : ByteArray).data.toList 65535 = 80 := by decide +kernel
  have h2 : readB (⟨#[48, 48, 56, 48]⟩ : ByteArray).data.toList 65535 = true := by decide +kernel
  have := read_calls ⟨#[48, 48, 56, 48]⟩ (by decide +kernel) 65535 (by omega) w
  rwa [h1, h2] at this

theorem ex_read2 (w : World) : Calls Tryz.prog 157 #[.string ⟨#[54, 53, 53, 51, 54]⟩, .int .i64 65535] w fun e W' => e = .returned (.tuple #[.int .i64 0, .bool false]) ∧ Below w.heap.size w W' := by
  have h1 : readI (⟨#[54, 53, 53, 51, 54]⟩ : ByteArray).data.toList 65535 = 0 := by decide +kernel
  have h2 : readB (⟨#[54, 53, 53, 51, 54]⟩ : ByteArray).data.toList 65535 = false := by decide +kernel
  have := read_calls ⟨#[54, 53, 53, 51, 54]⟩ (by decide +kernel) 65535 (by omega) w
  rwa [h1, h2] at this

theorem ex_show1 (w : World) : Calls Tryz.prog 91 #[.int .i64 (-120)] w fun e W' => e = .returned (.string ⟨#[45, 49, 50, 48]⟩) ∧ Below w.heap.size w W' := by
  have := show_calls (-120) (by omega) (by omega) w
  rwa [show_120] at this

theorem ex_show2 (w : World) : Calls Tryz.prog 91 #[.int .i64 0] w fun e W' => e = .returned (.string ⟨#[48]⟩) ∧ Below w.heap.size w W' := by
  have := show_calls 0 (by omega) (by omega) w
  rwa [show_0] at this

theorem ex_plain1 (w : World) : Calls Tryz.prog 180 #[.string ⟨#[48, 55]⟩] w fun e W' => e = .returned (.bool true) ∧ w = W' := by
  have h : plainB (⟨#[48, 55]⟩ : ByteArray).data.toList = true := by decide +kernel
  have := plain_any ⟨#[48, 55]⟩ (by decide +kernel) w
  rwa [h] at this

theorem ex_plain2 (w : World) : Calls Tryz.prog 180 #[.string ⟨#[]⟩] w fun e W' => e = .returned (.bool false) ∧ w = W' := by
  have h : plainB (⟨#[]⟩ : ByteArray).data.toList = false := by decide +kernel
  have := plain_any ⟨#[]⟩ (by decide +kernel) w
  rwa [h] at this




theorem text_append (s t : ByteArray) : (s ++ t).data.toList = s.data.toList ++ t.data.toList := by
  rw [ByteArray.data_append, Array.toList_append]

theorem empty_pos (s : ByteArray) (h : 0 < s.size) : s.toList.isEmpty = false := by
  rw [isEmpty_iff]
  exact decide_eq_false (by omega)

/-- A slice of one byte as a text. -/
theorem one_conv (w : World) (x : UInt8) (v : Int) (hv : (x.toNat : Int) = v) : (convert 81 9 (.slice (some ⟨w.heap.size, 0, none⟩) 1 1)).run Tryz.prog (w.alloc (.cells #[.int .u8 v] 5)) = .ok (.string ⟨#[x]⟩) (w.alloc (.cells #[.int .u8 v] 5)) := by
  subst hv
  refine run_convert_bytes_back (w.alloc (.cells #[.int .u8 (x.toNat : Int)] 5)) 81 9 5 ⟨w.heap.size, 0, none⟩ 1 [x] Tryz.underlying81 Tryz.underlying5 Tryz.underlying9 ?_
  intro j hj
  obtain rfl : j = 0 := by simp at hj; omega
  simp [Addr.add, World.cell?_alloc_new]

/-- What is told already, and what is left. -/
def Told (N q : Nat) (c : List UInt8) : Prop := (q = N ∧ c = []) ∨ (c ≠ [] ∧ showN N = (if q = 0 then [] else showN q) ++ c)

theorem told_start (N : Nat) : Told N N [] := .inl ⟨rfl, rfl⟩

theorem told_end {N : Nat} {c : List UInt8} (h : Told N 0 c) (hc : c ≠ []) : showN N = c := by
  rcases h with ⟨_, h⟩ | ⟨_, h⟩
  · exact absurd h hc
  · simpa using h

theorem told_more {N q : Nat} {c : List UInt8} (h : Told N q c) (hq : q ≠ 0 ∨ c = []) (x : UInt8) (hx : x = digC (q % 10)) (q' : Nat) (hq' : q' = q / 10) : Told N q' (x :: c) := by
  subst hx; subst hq'
  refine .inr ⟨by simp, ?_⟩
  have key : showN N = showN q ++ c := by
    rcases h with ⟨rfl, rfl⟩ | ⟨hc, h⟩
    · simp
    · rcases hq with hq | hq
      · rwa [if_neg hq] at h
      · exact absurd hq hc
  rw [key]
  by_cases h10 : q < 10
  · rw [if_pos (by omega), showN_lt h10, show q % 10 = q by omega]; rfl
  · rw [if_neg (by omega), showN_ge h10, List.append_assoc]; rfl

theorem told_short {N q : Nat} {c : List UInt8} (hN : N ≤ 9223372036854775808) (h : Told N q c) : c.length ≤ 19 := by
  rcases h with ⟨_, rfl⟩ | ⟨_, h⟩
  · simp
  · have := showN_len N hN
    rw [h, List.length_append] at this
    omega

theorem told_le {N q : Nat} (h : q ≤ N) (q' : Nat) (hq' : q' = q / 10) : q' ≤ N := by omega

theorem text_one (x : UInt8) (c : ByteArray) : ((⟨#[x]⟩ : ByteArray) ++ c).data.toList = x :: c.data.toList := by
  rw [text_append]; rfl

theorem text_nil (c : ByteArray) : c.data.toList = [] ↔ c.size = 0 := by
  have : c.data.toList.length = c.size := rfl
  rw [← this, List.length_eq_zero_iff]

def leftOf (v m : Value) : Nat := 2 * (intOf m).natAbs + (match v with | .string c => if c.size = 0 then 1 else 0 | _ => 0)

theorem left_less {q q' : Nat} {c : ByteArray} {x : UInt8} {m m' : Int} (hm : m.natAbs = q) (hm' : m'.natAbs = q') (hq : q' = q / 10) (h : q ≠ 0 ∨ c.size = 0) : leftOf (.string (⟨#[x]⟩ ++ c)) (.int .i64 m') < leftOf (.string c) (.int .i64 m) := by
  have hz : ((⟨#[x]⟩ : ByteArray) ++ c).size ≠ 0 := by rw [ByteArray.size_append]; show 1 + c.size ≠ 0; omega
  simp only [leftOf, intOf, hm, hm', if_neg hz]
  rcases h with h | h
  · omega
  · rw [if_pos h]; omega

theorem size_one (x : UInt8) (c : ByteArray) (n : Nat) (h : (x :: c.data.toList).length ≤ n) : ((⟨#[x]⟩ : ByteArray) ++ c).size ≤ n := by
  rw [← text_one] at h; exact h

set_option maxRecDepth 100000 in
set_option maxHeartbeats 4000000 in
theorem refShow_pos (N : Nat) (hN : N ≤ 9223372036854775807) (w : World) :
    Calls Tryz.prog 49 #[.int .i64 (N : Int)] w fun e W' => e = .returned (.string ⟨(showN N).toArray⟩) ∧ Below w.heap.size w W' := by
  have c0 : decide ((N : Int) < 0) = false := by simp
  go_enter Tryz.func49, Tryz.ntmps49
  go_wp2
  go_loopw [3, 4] (fun v m wr => ∃ (c : ByteArray) (q : Nat), v = .string c ∧ m = .int .i64 (q : Int) ∧ q ≤ N ∧ c.size ≤ 19 ∧ Hid (Told N q c.data.toList) ∧ Below w.heap.size w wr) (fun v m _ => leftOf v m)
  case atStart => exact ⟨⟨#[]⟩, N, rfl, rfl, Nat.le_refl _, by decide, Lib.hid (told_start N), Below.refl _ _⟩
  case round =>
    obtain ⟨c, q, rfl, rfl, hq, hcs, hT, hw⟩ := hrel
    obtain ⟨q', hq'⟩ : ∃ q', q' = q / 10 := ⟨_, rfl⟩
    obtain ⟨x, hx⟩ : ∃ x, x = digC (q % 10) := ⟨_, rfl⟩
    have hxv : (x.toNat : Int) = 48 + (q : Int) % 10 := by rw [hx, digC_toNat _ (by omega)]; omega
    have hd0 : decide ((q : Int) % 10 < 0) = false := by simp; omega
    have hqi := Lib.hid (show (q : Int) / 10 = (q' : Int) by omega)
    have hk := one_conv wr x _ hxv
    clear hxv
    have hle := Lib.hid (told_le hq q' hq')
    have HQ := Lib.hid hq'
    have HX := Lib.hid hx
    clear hq' hx
    by_cases h0 : q = 0
    · by_cases h1 : c.size = 0
      · have t0 : ((q : Int) != 0) = false := by simp; omega
        have t1 : c.toList.isEmpty = true := by rw [isEmpty_iff]; simpa using h1
        have hnext := Lib.hid (told_more hT.out (.inr ((text_nil c).2 h1)) x HX.out q' HQ.out)
        have hz := Lib.hid h1
        have hsh := Lib.hid (told_short (by omega) hnext.out)
        clear h1 h0
        go_wp2
        go_roundw
        case rel => exact ⟨_, q', rfl, by rw [hqi.out], hle.out, size_one _ _ _ hsh.out, Lib.hid (by rw [text_one]; exact hnext.out), hw.alloc hw.size _⟩
        case measure => exact left_less (by omega) (by rw [hqi.out]; omega) HQ.out (.inr hz.out)
      · subst h0
        have t1 : c.toList.isEmpty = false := by rw [isEmpty_iff]; simpa using h1
        have hend := Lib.hid (told_end hT.out (fun h => h1 ((text_nil c).1 h)))
        clear h1
        go_wp2
        go_ret
        exact ⟨by rw [hend.out]; rfl, hw⟩
    · have t0 : ((q : Int) != 0) = true := by simp; omega
      have hnext := Lib.hid (told_more hT.out (.inl h0) x HX.out q' HQ.out)
      have hsh := Lib.hid (told_short (by omega) hnext.out)
      go_wp2
      go_roundw
      case rel => exact ⟨_, q', rfl, by rw [hqi.out], hle.out, size_one _ _ _ hsh.out, Lib.hid (by rw [text_one]; exact hnext.out), hw.alloc hw.size _⟩
      case measure => exact left_less (by omega) (by rw [hqi.out]; omega) HQ.out (.inl h0)

theorem one_text (x : UInt8) (c : ByteArray) : (⟨(x :: c.data.toList).toArray⟩ : ByteArray) = ⟨#[x]⟩ ++ c := by
  rw [← text_one]

theorem neg_tmod' (q r : Nat) (hr : r = q % 10) : (-(q : Int)).tmod 10 = -(r : Int) := by
  have := neg_tmod q
  subst hr
  omega

set_option maxRecDepth 100000 in
set_option maxHeartbeats 4000000 in
theorem refShow_neg (N : Nat) (hN0 : 0 < N) (hN : N ≤ 9223372036854775808) (w : World) :
    Calls Tryz.prog 49 #[.int .i64 (-(N : Int))] w fun e W' => e = .returned (.string ⟨(45 :: showN N).toArray⟩) ∧ Below w.heap.size w W' := by
  have c0 : decide (-(N : Int) < 0) = true := by simp; omega
  go_enter Tryz.func49, Tryz.ntmps49
  go_wp2
  go_loopw [3, 4] (fun v m wr => ∃ (c : ByteArray) (q : Nat), v = .string c ∧ m = .int .i64 (-(q : Int)) ∧ q ≤ N ∧ c.size ≤ 19 ∧ Hid (Told N q c.data.toList) ∧ Below w.heap.size w wr) (fun v m _ => leftOf v m)
  case atStart => exact ⟨⟨#[]⟩, N, rfl, rfl, Nat.le_refl _, by decide, Lib.hid (told_start N), Below.refl _ _⟩
  case round =>
    obtain ⟨c, q, rfl, rfl, hq, hcs, hT, hw⟩ := hrel
    obtain ⟨q', hq'⟩ : ∃ q', q' = q / 10 := ⟨_, rfl⟩
    obtain ⟨r, hr⟩ : ∃ r, r = q % 10 := ⟨_, rfl⟩
    obtain ⟨x, hx⟩ : ∃ x, x = digC r := ⟨_, rfl⟩
    have hxv : (x.toNat : Int) = 48 + (r : Int) := by rw [hx, digC_toNat _ (by omega)]; omega
    have e1 := neg_tmod' q r hr
    have e2 := neg_tdiv q
    rw [← hq'] at e2
    have hk := one_conv wr x _ hxv
    have hr9 : r ≤ 9 := by omega
    have hq9 : q' ≤ 9223372036854775808 := by omega
    have HXV := Lib.hid hxv
    have hle := Lib.hid (told_le hq q' hq')
    have HQ := Lib.hid hq'
    have HX := Lib.hid (show x = digC (q % 10) by rw [hx, hr])
    clear hxv hq' hx
    by_cases h0 : q = 0
    · have h1 : c.size ≠ 0 := by
        intro h
        rcases hT.out with ⟨h, _⟩ | ⟨h', _⟩
        · omega
        · exact h' ((text_nil c).2 h)
      subst h0
      have t1 : c.toList.isEmpty = false := by rw [isEmpty_iff]; simpa using h1
      have hend := Lib.hid (told_end hT.out (fun h => h1 ((text_nil c).1 h)))
      clear h1 e1 e2 hr
      go_wp2
      go_ret
      exact ⟨by rw [hend.out, one_text]; rfl, hw⟩
    · have t0 : (-(q : Int) != 0) = true := by simp; omega
      have hnext := Lib.hid (told_more hT.out (.inl h0) x HX.out q' HQ.out)
      have hsh := Lib.hid (told_short (by omega) hnext.out)
      clear hr
      by_cases hr0 : r = 0
      · subst hr0
        clear hk
        have hk := one_conv wr x 48 (by have := HXV.out; omega)
        go_wp2
        go_roundw
        case rel => exact ⟨_, q', rfl, rfl, hle.out, size_one _ _ _ hsh.out, Lib.hid (by rw [text_one]; exact hnext.out), hw.alloc hw.size _⟩
        case measure => exact left_less (by omega) (by omega) HQ.out (.inl h0)
      · have d0 : decide (-(r : Int) < 0) = true := by simp; omega
        go_wp2
        go_roundw
        case rel => exact ⟨_, q', rfl, rfl, hle.out, size_one _ _ _ hsh.out, Lib.hid (by rw [text_one]; exact hnext.out), hw.alloc hw.size _⟩
        case measure => exact left_less (by omega) (by omega) HQ.out (.inl h0)

theorem refShow_calls (n : Int) (h0 : -9223372036854775808 ≤ n) (h1 : n ≤ 9223372036854775807) (w : World) :
    Calls Tryz.prog 49 #[.int .i64 n] w fun e W' => e = .returned (.string ⟨(showI n).toArray⟩) ∧ Below w.heap.size w W' := by
  by_cases h : n < 0
  · have := refShow_neg n.natAbs (by omega) (by omega) w
    rw [show -((n.natAbs : Nat) : Int) = n by omega] at this
    rw [showI_neg h]
    exact this
  · have := refShow_pos n.toNat (by omega) w
    rw [show ((n.toNat : Nat) : Int) = n by omega] at this
    rw [showI_nonneg (by omega)]
    exact this




theorem valF_low (a : Nat) (l : List UInt8) : a * 10 ^ l.length ≤ valF a l := by
  induction l generalizing a with
  | nil => simp [valF_nil]
  | cons c l ih =>
    rw [valF_cons]
    refine Nat.le_trans ?_ (ih _)
    rw [List.length_cons, Nat.pow_succ, Nat.mul_comm (10 ^ l.length) 10, ← Nat.mul_assoc]
    exact Nat.mul_le_mul_right _ (by omega)

theorem valF_less {a b : Nat} (h : a < b) (x y : List UInt8) (hx : x.all digB = true) (hl : x.length = y.length) : valF a x < valF b y := by
  have h1 := valF_lt a x hx
  have h2 := valF_low b y
  rw [← hl] at h2
  exact Nat.lt_of_lt_of_le h1 (Nat.le_trans (Nat.mul_le_mul_right _ h) h2)

/-- Of two texts of digits as long as one another the lesser one tells less. -/
theorem less_val (a : Nat) (x y : List UInt8) (hx : x.all digB = true) (hy : y.all digB = true) (hl : x.length = y.length) : Op.bytesLess x y = decide (valF a x < valF a y) := by
  induction x generalizing y a with
  | nil => cases y with
    | nil => simp [Op.bytesLess]
    | cons d y => simp at hl
  | cons c x ih => cases y with
    | nil => simp at hl
    | cons d y =>
      rw [List.all_cons, Bool.and_eq_true] at hx hy
      have hc := digB_iff.1 hx.1
      have hd := digB_iff.1 hy.1
      have hl' : x.length = y.length := by simpa using hl
      rw [Op.bytesLess, valF_cons, valF_cons]
      by_cases h1 : c < d
      · have h1' : c.toNat < d.toNat := by simpa [UInt8.lt_iff_toNat_lt] using h1
        have := valF_less (a := 10 * a + (c.toNat - 48)) (b := 10 * a + (d.toNat - 48)) (by omega) x y hx.2 hl'
        simp [h1, this]
      · by_cases h2 : c = d
        · subst h2
          simp [ih (10 * a + (c.toNat - 48)) y hx.2 hy.2 hl']
        · have h1' : ¬ c.toNat < d.toNat := by simpa [UInt8.lt_iff_toNat_lt] using h1
          have h2' : c.toNat ≠ d.toNat := fun e => h2 (UInt8.toNat_inj.1 e)
          have := valF_less (a := 10 * a + (d.toNat - 48)) (b := 10 * a + (c.toNat - 48)) (by omega) y x hy.2 hl'.symm
          have e := decide_eq_false (show ¬ valF (10 * a + (c.toNat - 48)) x < valF (10 * a + (d.toNat - 48)) y by omega)
          rw [e]
          simp [h1, h2]

/-- Digits without zeros ahead are what is shown. -/
theorem bare_shown (l : List UInt8) (hne : l ≠ []) (h : l.all digB = true) (hb : l.length ≤ 1 ∨ ∃ c r, l = c :: r ∧ c ≠ 48) : l = showN (valN l) := by
  obtain ⟨k, hk⟩ := showN_valN l hne h
  cases k with
  | zero => simpa using hk
  | succ k =>
    have hp := showN_pos (valN l)
    rcases hb with hb | ⟨c, r, e, hc⟩
    · rw [hk, List.length_append, List.length_replicate] at hb
      omega
    · rw [List.replicate_succ, List.cons_append] at hk
      rw [e] at hk
      exact absurd (List.cons.inj hk).1 hc

theorem shown_len {V M : Nat} (h : (showN V).length < (showN M).length) : V < M := by
  rcases Nat.lt_or_ge V M with h' | h'
  · exact h'
  · have := showN_len_mono h'
    omega

theorem valN_split (l : List UInt8) (k : Nat) : valN l = valF (valN (l.take k)) (l.drop k) := by
  unfold valN
  rw [← valF_append, List.take_append_drop]

theorem valN_take_le (l : List UInt8) (k : Nat) : valN (l.take k) ≤ valN l := by
  rw [valN_split l k]
  exact valF_ge _ _

theorem text_take (s : ByteArray) (k : Nat) (h : k < s.size) : s.data.toList.take (k + 1) = s.data.toList.take k ++ [s[k]] := by
  rw [List.take_succ_eq_append_getElem (by simpa using h)]; rfl

theorem text_all (s : ByteArray) : s.data.toList.take s.size = s.data.toList := List.take_of_length_le (by exact Nat.le_refl _)

theorem text_mem (s : ByteArray) (k : Nat) (h : k < s.size) : s[k] ∈ s.data.toList := List.getElem_mem (l := s.data.toList) (n := k) h

/-- The ways in which a text of digits without zeros ahead is not above another one, and is. -/
theorem cmp_le (c lb : ByteArray) (V M : Nat) (hc : c.data.toList = showN V) (hl : lb.data.toList = showN M) (h : V ≤ M) :
    decide (lb.size < c.size) = false ∧ (((c.size : Int) == (lb.size : Int)) = false ∨ (((c.size : Int) == (lb.size : Int)) = true ∧ Op.bytesLess c.toList lb.toList = true ∧ (c.toList == lb.toList) = false) ∨
      (((c.size : Int) == (lb.size : Int)) = true ∧ Op.bytesLess c.toList lb.toList = false ∧ (c.toList == lb.toList) = true)) := by
  have h1 : c.size = (showN V).length := by rw [← hc]; rfl
  have h2 : lb.size = (showN M).length := by rw [← hl]; rfl
  have hm := showN_len_mono h
  refine ⟨by simp; omega, ?_⟩
  by_cases e : c.size = lb.size
  · have e' : ((c.size : Int) == (lb.size : Int)) = true := by rw [e]; simp
    have hless := less_val 0 _ _ (showN_all V) (showN_all M) (by omega)
    have hv : decide (valF 0 (showN V) < valF 0 (showN M)) = decide (V < M) := by
      show decide (valN (showN V) < valN (showN M)) = _
      rw [valN_showN, valN_showN]
    rw [hv] at hless
    rw [ByteArray.toList_eq, ByteArray.toList_eq, hc, hl, hless]
    rcases Nat.lt_or_ge V M with h' | h'
    · refine .inr (.inl ⟨e', by simpa using h', ?_⟩)
      rw [beq_eq_false_iff_ne]
      intro e
      have := showN_inj e
      omega
    · obtain rfl : V = M := by omega
      exact .inr (.inr ⟨e', by simp, by simp⟩)
  · refine .inl ?_
    rw [beq_eq_false_iff_ne]
    omega

theorem cmp_gt (c lb : ByteArray) (V M : Nat) (hc : c.data.toList = showN V) (hl : lb.data.toList = showN M) (h : M < V) :
    (decide (lb.size < c.size) = true) ∨ (decide (lb.size < c.size) = false ∧ ((c.size : Int) == (lb.size : Int)) = true ∧ Op.bytesLess c.toList lb.toList = false ∧ (c.toList == lb.toList) = false) := by
  have h1 : c.size = (showN V).length := by rw [← hc]; rfl
  have h2 : lb.size = (showN M).length := by rw [← hl]; rfl
  have hm := showN_len_mono (Nat.le_of_lt h)
  by_cases e : c.size = lb.size
  · refine .inr ⟨by simp; omega, by rw [e]; simp, ?_⟩
    have hless := less_val 0 _ _ (showN_all V) (showN_all M) (by omega)
    have hv : decide (valF 0 (showN V) < valF 0 (showN M)) = decide (V < M) := by
      show decide (valN (showN V) < valN (showN M)) = _
      rw [valN_showN, valN_showN]
    rw [hv] at hless
    rw [ByteArray.toList_eq, ByteArray.toList_eq, hc, hl, hless]
    refine ⟨by simp; omega, ?_⟩
    rw [beq_eq_false_iff_ne]
    intro e
    have := showN_inj e
    omega
  · exact .inl (by simp; omega)

def sizeOf (v : Value) : Nat := match v with
  | .string c => c.size
  | _ => 0

theorem digit_sub (c : UInt8) (a : Nat) (h : digB c = true) : 10 * (a : Int) + (c.toNat : Int) - 48 = ((10 * a + (c.toNat - 48) : Nat) : Int) := by
  have := digB_iff.1 h
  omega

theorem wrap_sub (x : Int) (h0 : 0 ≤ x - 48) (h1 : x - 48 ≤ 9223372036854775807) : wrap64 (wrap64 x - 48) = x - 48 := by
  unfold wrap64
  omega

end Go.Proofs.YtlkikfdbjpjpaaaGreatDoor.Deci
