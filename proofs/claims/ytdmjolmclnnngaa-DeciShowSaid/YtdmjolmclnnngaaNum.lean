/-
  Numbers in digits to the base of 10, as lists of bytes: shown, read. Nothing of the program.
-/
import Derived.KernelRfl
namespace Go.Proofs.Ytdmjolmclnnngaa

/-- The byte of a digit. -/
@[irreducible] def digC (n : Nat) : UInt8 := UInt8.ofNat (48 + n)
theorem digC_toNat (n : Nat) (h : n < 10) : (digC n).toNat = 48 + n := by
  unfold digC
  rw [UInt8.toNat_ofNat']
  omega
/-- A number in digits, the highest first. -/
def showN (n : Nat) : List UInt8 := if n < 10 then [digC n] else showN (n / 10) ++ [digC (n % 10)]
termination_by n
decreasing_by omega
def showI (n : Int) : List UInt8 := if n < 0 then 45 :: showN n.natAbs else showN n.natAbs
def digB (c : UInt8) : Bool := decide (48 ≤ c.toNat) && decide (c.toNat ≤ 57)
def plainB (l : List UInt8) : Bool := !l.isEmpty && l.all digB
def valF (a : Nat) (l : List UInt8) : Nat := l.foldl (fun a c => 10 * a + (c.toNat - 48)) a
def valN (l : List UInt8) : Nat := valF 0 l
/-- Is it read? -/
def readB (l : List UInt8) (most : Int) : Bool := plainB l && decide ((valN l : Int) ≤ most)
def readI (l : List UInt8) (most : Int) : Int := if readB l most then (valN l : Int) else 0

theorem showN_lt {n : Nat} (h : n < 10) : showN n = [digC n] := by rw [showN, if_pos h]
theorem showN_ge {n : Nat} (h : ¬ n < 10) : showN n = showN (n / 10) ++ [digC (n % 10)] := by rw [showN, if_neg h]
theorem digB_digC (n : Nat) (h : n < 10) : digB (digC n) = true := by
  unfold digB
  rw [digC_toNat n h]
  simp
  omega
theorem digB_iff {c : UInt8} : digB c = true ↔ 48 ≤ c.toNat ∧ c.toNat ≤ 57 := by simp [digB]
theorem showN_ne (n : Nat) : showN n ≠ [] := by
  by_cases h : n < 10
  · rw [showN_lt h]; simp
  · rw [showN_ge h]; simp
theorem showN_all (n : Nat) : (showN n).all digB = true := by
  induction n using Nat.strongRecOn with
  | _ n ih =>
    by_cases h : n < 10
    · rw [showN_lt h]; simp [digB_digC n h]
    · rw [showN_ge h, List.all_append, ih _ (by omega)]
      simp [digB_digC (n % 10) (by omega)]
theorem showN_plain (n : Nat) : plainB (showN n) = true := by
  unfold plainB
  rw [showN_all]
  have := showN_ne n
  simp [this]
theorem valF_nil (a : Nat) : valF a [] = a := rfl
theorem valF_cons (a : Nat) (c : UInt8) (l : List UInt8) : valF a (c :: l) = valF (10 * a + (c.toNat - 48)) l := by unfold valF; rw [List.foldl_cons]
theorem valF_append (a : Nat) (l r : List UInt8) : valF a (l ++ r) = valF (valF a l) r := by simp [valF]
theorem valF_snoc (a : Nat) (l : List UInt8) (c : UInt8) : valF a (l ++ [c]) = 10 * valF a l + (c.toNat - 48) := by rw [valF_append, valF_cons, valF_nil]
theorem valN_snoc (l : List UInt8) (c : UInt8) : valN (l ++ [c]) = 10 * valN l + (c.toNat - 48) := valF_snoc 0 l c
theorem valN_showN (n : Nat) : valN (showN n) = n := by
  induction n using Nat.strongRecOn with
  | _ n ih =>
    by_cases h : n < 10
    · rw [showN_lt h]
      unfold valN
      rw [valF_cons, valF_nil, digC_toNat n h]
      omega
    · rw [showN_ge h, valN_snoc, ih _ (by omega), digC_toNat _ (by omega)]
      omega
/-- Whatever comes behind, a number does not grow less. -/
theorem valF_ge (a : Nat) (l : List UInt8) : a ≤ valF a l := by
  induction l generalizing a with
  | nil => exact Nat.le_refl _
  | cons c l ih => rw [valF_cons]; exact Nat.le_trans (by omega) (ih _)
theorem valF_zeros (l : List UInt8) (k : Nat) : valN (List.replicate k 48 ++ l) = valN l := by
  induction k with
  | zero => rfl
  | succ k ih =>
    rw [List.replicate_succ, List.cons_append]
    unfold valN at ih ⊢
    rw [valF_cons, show 10 * 0 + ((48 : UInt8).toNat - 48) = 0 by decide]
    exact ih
theorem showN_inj {a b : Nat} (h : showN a = showN b) : a = b := by rw [← valN_showN a, h, valN_showN]
/-- The first digit is no 0, but of 0. -/
theorem showN_head (n : Nat) (h : 0 < n) : ∃ c r, showN n = c :: r ∧ c ≠ 48 := by
  induction n using Nat.strongRecOn with
  | _ n ih =>
    by_cases hn : n < 10
    · refine ⟨digC n, [], showN_lt hn, fun e => ?_⟩
      have := digC_toNat n hn
      rw [e] at this
      have e48 : (48 : UInt8).toNat = 48 := rfl
      omega
    · obtain ⟨c, r, e, hc⟩ := ih (n / 10) (by omega) (by omega)
      exact ⟨c, r ++ [digC (n % 10)], by rw [showN_ge hn, e]; rfl, hc⟩
theorem digC_zero : digC 0 = 48 := UInt8.toNat_inj.1 (by rw [digC_toNat 0 (by omega)]; rfl)
theorem showN_zero : showN 0 = [48] := by rw [showN_lt (by omega), digC_zero]
theorem showN_ten (n : Nat) (h : 0 < n) : showN (10 * n) = showN n ++ [48] := by
  rw [showN_ge (by omega), show 10 * n / 10 = n by omega, show 10 * n % 10 = 0 by omega, digC_zero]
theorem digC_sub (c : UInt8) (h : digB c = true) : digC (c.toNat - 48) = c := by
  obtain ⟨h1, h2⟩ := digB_iff.1 h
  apply UInt8.toNat_inj.1
  rw [digC_toNat _ (by omega)]
  omega
/-- What is read is shown as the digits without zeros ahead. -/
theorem showN_valN (l : List UInt8) (hne : l ≠ []) (h : l.all digB = true) : ∃ k, l = List.replicate k 48 ++ showN (valN l) := by
  induction hl : l.length generalizing l with
  | zero => exact absurd (List.eq_nil_of_length_eq_zero hl) hne
  | succ n ih =>
    obtain ⟨r, c, rfl⟩ : ∃ r c, l = r ++ [c] := by
      rcases List.eq_nil_or_concat l with e | ⟨r, c, e⟩
      · exact absurd e hne
      · exact ⟨r, c, by simpa using e⟩
    simp at h hl
    obtain ⟨hr, hc⟩ := h
    have hd := digC_sub c hc
    obtain ⟨hc1, hc2⟩ := digB_iff.1 hc
    rw [valN_snoc]
    by_cases hr0 : r = []
    · subst hr0
      refine ⟨0, ?_⟩
      rw [show valN [] = 0 from rfl, showN_lt (by omega), show 10 * 0 + (c.toNat - 48) = c.toNat - 48 by omega, hd]
      rfl
    · obtain ⟨k, hk⟩ := ih r hr0 (by simpa using hr) hl
      by_cases hv : valN r = 0
      · rw [hv] at hk ⊢
        refine ⟨k + 1, ?_⟩
        rw [hk, showN_zero, showN_lt (by omega), show 10 * 0 + (c.toNat - 48) = c.toNat - 48 by omega, hd, List.replicate_succ']
      · refine ⟨k, ?_⟩
        rw [showN_ge (by omega), show (10 * valN r + (c.toNat - 48)) / 10 = valN r by omega, show (10 * valN r + (c.toNat - 48)) % 10 = c.toNat - 48 by omega, hd, ← List.append_assoc, ← hk]
theorem showN_len_mono {a b : Nat} (h : a ≤ b) : (showN a).length ≤ (showN b).length := by
  induction b using Nat.strongRecOn generalizing a with
  | _ b ih =>
    by_cases hb : b < 10
    · rw [showN_lt hb, showN_lt (by omega)]; simp
    · rw [showN_ge hb]
      by_cases ha : a < 10
      · rw [showN_lt ha]; simp
      · rw [showN_ge ha]
        simp
        exact ih _ (by omega) (by omega)
theorem showN_len_pow (k n : Nat) (h : n < 10 ^ (k + 1)) : (showN n).length ≤ k + 1 := by
  induction k generalizing n with
  | zero => rw [showN_lt (by omega)]; simp
  | succ k ih =>
    by_cases hn : n < 10
    · rw [showN_lt hn]; simp
    · rw [showN_ge hn]
      have := ih (n / 10) (by rw [Nat.pow_succ] at h; omega)
      simp
      omega
theorem showN_len (n : Nat) (h : n ≤ 9223372036854775808) : (showN n).length ≤ 19 := showN_len_pow 18 n (by omega)
theorem showN_pos (n : Nat) : 1 ≤ (showN n).length := List.length_pos_iff.2 (showN_ne n)
theorem showI_nonneg {n : Int} (h : 0 ≤ n) : showI n = showN n.toNat := by
  unfold showI
  rw [if_neg (by omega), show n.natAbs = n.toNat by omega]
theorem showI_neg {n : Int} (h : n < 0) : showI n = 45 :: showN n.natAbs := by
  unfold showI
  rw [if_pos h]
theorem showI_len (n : Int) (h0 : -9223372036854775808 ≤ n) (h1 : n ≤ 9223372036854775807) : (showI n).length ≤ 20 ∧ 1 ≤ (showI n).length := by
  have a := showN_len n.natAbs (by omega)
  have b := showN_pos n.natAbs
  unfold showI
  split
  · simp; omega
  · omega
theorem valF_lt (a : Nat) (l : List UInt8) (h : l.all digB = true) : valF a l < (a + 1) * 10 ^ l.length := by
  induction l generalizing a with
  | nil => rw [valF_nil]; simp
  | cons c l ih =>
    rw [List.all_cons, Bool.and_eq_true] at h
    have hc := digB_iff.1 h.1
    have h1 := ih (10 * a + (c.toNat - 48)) h.2
    rw [valF_cons]
    refine Nat.lt_of_lt_of_le h1 ?_
    rw [List.length_cons, Nat.pow_succ, Nat.mul_comm (10 ^ l.length) 10, ← Nat.mul_assoc]
    exact Nat.mul_le_mul_right _ (by omega)
theorem valN_lt (l : List UInt8) (h : l.all digB = true) : valN l < 10 ^ l.length := by
  have := valF_lt 0 l h
  rw [Nat.zero_add, Nat.one_mul] at this
  exact this
theorem plain_iff (l : List UInt8) : plainB l = true ↔ l ≠ [] ∧ l.all digB = true := by
  unfold plainB
  rw [Bool.and_eq_true]
  simp
theorem head_digit {c : UInt8} {r : List UInt8} {n : Nat} (h : showN n = c :: r) : digB c = true := by
  have := showN_all n
  rw [h] at this
  simp at this
  exact this.1
theorem showI_inj {a b : Int} (h : showI a = showI b) : a = b := by
  have mix : ∀ x y : Int, x < 0 → ¬ y < 0 → showI x ≠ showI y := by
    intro x y hx hy e
    rw [showI_neg hx, showI_nonneg (by omega)] at e
    have := head_digit e.symm
    revert this
    decide
  by_cases ha : a < 0
  · by_cases hb : b < 0
    · rw [showI_neg ha, showI_neg hb] at h
      have := showN_inj (List.cons.inj h).2
      omega
    · exact absurd h (mix a b ha hb)
  · by_cases hb : b < 0
    · exact absurd h.symm (mix b a hb ha)
    · rw [showI_nonneg (by omega), showI_nonneg (by omega)] at h
      have := showN_inj h
      omega

end Go.Proofs.Ytdmjolmclnnngaa
