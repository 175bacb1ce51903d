/-
  Plain functions on bytes: what package ascii answers, as functions of lists. Nothing of the program.
-/
import Derived.KernelRfl
namespace Go.Proofs.Ytmhoooenolackaa

/-- Is it a capital letter? -/
def capB (c : Int) : Bool := decide (65 ≤ c) && decide (c ≤ 90)
/-- Is it a letter? -/
def alphaB (c : Int) : Bool := capB c || (decide (97 ≤ c) && decide (c ≤ 122))
/-- Is it a digit? -/
def digitB (c : Int) : Bool := decide (48 ≤ c) && decide (c ≤ 57)
/-- What it is worth to the base of 16. -/
def hexI (c : Int) : Int := if 48 ≤ c ∧ c ≤ 57 then c - 48 else if 97 ≤ c ∧ c ≤ 102 then c - 87 else if 65 ≤ c ∧ c ≤ 70 then c - 55 else -1
/-- A byte with 32 more, if it is a capital letter. -/
def lowI (c : Int) : Int := if 65 ≤ c ∧ c ≤ 90 then c + 32 else c

def lowB (c : UInt8) : UInt8 := if capB c.toNat then c + 32 else c
def lower (l : List UInt8) : List UInt8 := l.map lowB
/-- Up to 32. -/
def lowish (c : UInt8) : Bool := decide (c.toNat ≤ 32)
/-- 9, 10 or 13. -/
def breakB (c : UInt8) : Bool := c.toNat == 9 || c.toNat == 10 || c.toNat == 13
def dropEnd (l : List UInt8) : List UInt8 := (l.reverse.dropWhile lowish).reverse
def trim (l : List UInt8) : List UInt8 := dropEnd (l.dropWhile lowish)
def clean (l : List UInt8) : List UInt8 := (trim l).filter fun c => !breakB c

theorem lowB_toNat (c : UInt8) : ((lowB c).toNat : Int) = lowI c.toNat := by
  unfold lowB lowI capB
  have h := c.toNat_lt
  by_cases h1 : 65 ≤ (c.toNat : Int) ∧ (c.toNat : Int) ≤ 90
  · rw [if_pos (by simp [h1.1, h1.2]), if_pos h1]
    rw [UInt8.toNat_add]
    simp
    omega
  · rw [if_neg (by simp; omega), if_neg h1]

theorem capB_iff {c : Int} (h : capB c = true) : 65 ≤ c ∧ c ≤ 90 := by simpa [capB] using h
theorem lower_snoc (l : List UInt8) (c : UInt8) : lower (l ++ [c]) = lower l ++ [lowB c] := by simp [lower]

/-- What stands from the first byte above 32 on. -/
def outL (l : List UInt8) : List UInt8 := l.dropWhile lowish
/-- How much of that stays. -/
def endN (l : List UInt8) : Nat := (dropEnd (outL l)).length
theorem outL_skip (l : List UInt8) (x : UInt8) (h : lowish x = true) (h0 : outL l = []) : outL (l ++ [x]) = [] := by
  unfold outL at *
  rw [List.dropWhile_append, h0]
  simp [h]
theorem outL_add (l : List UInt8) (x : UInt8) (h : lowish x = false ∨ outL l ≠ []) : outL (l ++ [x]) = outL l ++ [x] := by
  unfold outL at *
  rw [List.dropWhile_append]
  rcases h with h | h
  · by_cases h0 : l.dropWhile lowish = []
    · rw [h0]; simp [h]
    · rw [if_neg (by simpa using h0)]
  · rw [if_neg (by simpa using h)]
theorem dropEnd_ws (l : List UInt8) (x : UInt8) (h : lowish x = true) : dropEnd (l ++ [x]) = dropEnd l := by
  unfold dropEnd
  rw [List.reverse_append]
  simp [h]
theorem dropEnd_no (l : List UInt8) (x : UInt8) (h : lowish x = false) : dropEnd (l ++ [x]) = l ++ [x] := by
  unfold dropEnd
  rw [List.reverse_append]
  simp [h]
theorem dropEnd_prefix (l : List UInt8) : dropEnd l <+: l := by
  unfold dropEnd
  have h : l.reverse.dropWhile lowish <:+ l.reverse := List.dropWhile_suffix _
  have := List.reverse_prefix.2 h
  simpa using this
theorem outL_length (l : List UInt8) : (outL l).length ≤ l.length := (List.dropWhile_suffix lowish).length_le
theorem endN_le (l : List UInt8) : endN l ≤ (outL l).length := (dropEnd_prefix _).length_le
theorem trim_take (l : List UInt8) : trim l = (outL l).take (endN l) := List.prefix_iff_eq_take.1 (dropEnd_prefix (outL l))
theorem endN_skip (l : List UInt8) (x : UInt8) (h : lowish x = true) (h0 : outL l = []) : endN (l ++ [x]) = endN l := by
  unfold endN
  rw [outL_skip l x h h0, h0]
theorem endN_ws (l : List UInt8) (x : UInt8) (h : lowish x = true) (h0 : outL l ≠ []) : endN (l ++ [x]) = endN l := by
  unfold endN
  rw [outL_add l x (.inr h0), dropEnd_ws _ _ h]
theorem endN_no (l : List UInt8) (x : UInt8) (h : lowish x = false) : endN (l ++ [x]) = (outL l).length + 1 := by
  unfold endN
  rw [outL_add l x (.inl h), dropEnd_no _ _ h]
  simp
theorem lowish_int (x : UInt8) : decide ((x.toNat : Int) ≤ 32) = lowish x := by
  unfold lowish
  rw [Bool.eq_iff_iff]
  simp
  omega

end Go.Proofs.Ytmhoooenolackaa
