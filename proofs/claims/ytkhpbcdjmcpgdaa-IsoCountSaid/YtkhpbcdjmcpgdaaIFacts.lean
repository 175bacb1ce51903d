/-
  Layer 4, plain: the bytes of a text as characters (wide), characters as bytes (narrow), how many there are (count), whether all are below 128 (plainB), over the model's own decoding.
-/
import Derived.Test.YtkhpbcdjmcpgdaaProg
import Derived.WalkKit
import Derived.Lib.Hide
import Derived.Laws.RangeAny
namespace Go.Proofs.Ytkhpbcdjmcpgdaa.Iso
open Go.RowKit
set_option linter.unusedSimpArgs false
set_option linter.unusedVariables false

/-- The first character of a list of bytes, and how many bytes it has. -/
def decL (l : List UInt8) : Nat × Nat := Utf8.decode ⟨l.toArray⟩ 0

theorem get_drop (s : ByteArray) (i k : Nat) : s.get! (i + k) = (⟨(s.data.toList.drop i).toArray⟩ : ByteArray).get! (0 + k) := by
  show s.data[i + k]! = ((s.data.toList.drop i).toArray)[0 + k]!
  rw [Nat.zero_add]
  have e : s.data[i + k]? = ((s.data.toList.drop i).toArray)[k]? := by simp
  simp only [getElem!_def, e]
theorem size_drop (s : ByteArray) (i k : Nat) : (i + k < s.size) ↔ (0 + k < (⟨(s.data.toList.drop i).toArray⟩ : ByteArray).size) := by
  show (i + k < s.data.size) ↔ (0 + k < ((s.data.toList.drop i).toArray).size)
  simp
  omega
theorem decode_drop (s : ByteArray) (i : Nat) : Utf8.decode s i = decL (s.data.toList.drop i) := by
  unfold decL Utf8.decode
  simp only [get_drop s i, size_drop s i]

theorem decL_low (a : UInt8) (r : List UInt8) (h : a.toNat < 128) : decL (a :: r) = (a.toNat, 1) := by
  exact decode_ascii ⟨(a :: r).toArray⟩ 0 (by show 0 < (a :: r).toArray.size; simp) h
theorem decL_width (a : UInt8) (r : List UInt8) : 1 ≤ (decL (a :: r)).2 := by
  by_cases h : a.toNat < 128
  · rw [decL_low a r h]; exact Nat.le_refl _
  · exact (decode_high ⟨(a :: r).toArray⟩ 0 (by show 0 < (a :: r).toArray.size; simp) (by show 128 ≤ a.toNat; omega)).2
theorem decL_two (a b : UInt8) (r : List UInt8) (c : Nat) (h0 : 128 ≤ c) (h1 : c ≤ 255) (ha : a.toNat = 192 + c / 64) (hb : b.toNat = 128 + c % 64) : decL (a :: b :: r) = (c, 2) := by
  have e0 : (⟨(a :: b :: r).toArray⟩ : ByteArray).get! (0 + 0) = a := rfl
  have e1 : (⟨(a :: b :: r).toArray⟩ : ByteArray).get! (0 + 1) = b := by
    show ((a :: b :: r).toArray)[0 + 1]! = b
    simp
  have es : 0 + 1 < (⟨(a :: b :: r).toArray⟩ : ByteArray).size := by show 0 + 1 < (a :: b :: r).toArray.size; simp
  unfold decL Utf8.decode
  simp only [e0, e1, es, ha, hb]
  rw [if_neg (by omega), if_pos (by simp; omega), if_pos (by omega)]
  ext
  · show (192 + c / 64) % 32 * 64 + (128 + c % 64) % 64 = c
    omega
  · rfl
/-- A first byte from 128 on whose character is at most 255: two bytes. -/
theorem decL_high (a : UInt8) (r : List UInt8) (h : 128 ≤ a.toNat) (hd : (decL (a :: r)).1 ≤ 255) :
    ∃ b r', r = b :: r' ∧ 128 ≤ (decL (a :: r)).1 ∧ (decL (a :: r)).2 = 2 ∧ a.toNat = 192 + (decL (a :: r)).1 / 64 ∧ b.toNat = 128 + (decL (a :: r)).1 % 64 := by
  cases r with
  | nil =>
    exfalso
    have e0 : (⟨([a] : List UInt8).toArray⟩ : ByteArray).get! (0 + 0) = a := rfl
    have es : ∀ k, (0 + (k + 1) < (⟨([a] : List UInt8).toArray⟩ : ByteArray).size) = False := by
      intro k; rw [eq_iff_iff]; show (0 + (k + 1) < [a].toArray.size) ↔ False; simp
    have es1 := es 0
    revert hd
    unfold decL Utf8.decode
    simp only [e0, es1, Utf8.runeError]
    rw [if_neg (by omega)]
    simp
  | cons b r' =>
    refine ⟨b, r', rfl, ?_⟩
    have e0 : (⟨(a :: b :: r').toArray⟩ : ByteArray).get! (0 + 0) = a := rfl
    have e1 : (⟨(a :: b :: r').toArray⟩ : ByteArray).get! (0 + 1) = b := by
      show ((a :: b :: r').toArray)[0 + 1]! = b
      simp
    have es : 0 + 1 < (⟨(a :: b :: r').toArray⟩ : ByteArray).size := by show 0 + 1 < (a :: b :: r').toArray.size; simp
    have la := a.toNat_lt
    have lb := b.toNat_lt
    revert hd
    unfold decL Utf8.decode
    simp only [e0, e1, es, Utf8.runeError]
    rw [if_neg (by omega)]
    generalize (⟨(a :: b :: r').toArray⟩ : ByteArray).get! (0 + 2) = x2
    generalize (⟨(a :: b :: r').toArray⟩ : ByteArray).get! (0 + 3) = x3
    have l2 := x2.toNat_lt
    have l3 := x3.toNat_lt
    repeat' split
    all_goals simp_all
    all_goals omega

/-- A byte as a character. -/
def wid1 (c : UInt8) : List UInt8 := if c.toNat < 128 then [c] else [UInt8.ofNat (192 + c.toNat / 64), UInt8.ofNat (128 + c.toNat % 64)]
def wide (l : List UInt8) : List UInt8 := l.flatMap wid1
/-- The characters as bytes, if each has one. -/
def narrow (l : List UInt8) : Option (List UInt8) :=
  match l with
  | [] => some []
  | a :: r => if (decL (a :: r)).1 ≤ 255 then (narrow (r.drop ((decL (a :: r)).2 - 1))).map (UInt8.ofNat (decL (a :: r)).1 :: ·) else none
termination_by l.length
decreasing_by simp; omega
/-- How many characters there are. -/
def count (l : List UInt8) : Nat :=
  match l with
  | [] => 0
  | a :: r => 1 + count (r.drop ((decL (a :: r)).2 - 1))
termination_by l.length
decreasing_by simp; omega
def plainB (l : List UInt8) : Bool := l.all fun c => decide (c.toNat < 128)

theorem narrow_nil : narrow [] = some [] := by rw [narrow]
theorem narrow_yes {a : UInt8} {r : List UInt8} (h : (decL (a :: r)).1 ≤ 255) : narrow (a :: r) = (narrow (r.drop ((decL (a :: r)).2 - 1))).map (UInt8.ofNat (decL (a :: r)).1 :: ·) := by
  rw [narrow, if_pos h]
theorem narrow_no {a : UInt8} {r : List UInt8} (h : ¬ (decL (a :: r)).1 ≤ 255) : narrow (a :: r) = none := by
  rw [narrow, if_neg h]
theorem count_nil : count [] = 0 := by rw [count]
theorem count_cons (a : UInt8) (r : List UInt8) : count (a :: r) = 1 + count (r.drop ((decL (a :: r)).2 - 1)) := by rw [count]

theorem ofNat_toNat (n : Nat) (h : n ≤ 255) : (UInt8.ofNat n).toNat = n := by
  rw [UInt8.toNat_ofNat']; omega
theorem wid1_low {c : UInt8} (h : c.toNat < 128) : wid1 c = [c] := by unfold wid1; rw [if_pos h]
theorem wid1_high {c : UInt8} (h : ¬ c.toNat < 128) : wid1 c = [UInt8.ofNat (192 + c.toNat / 64), UInt8.ofNat (128 + c.toNat % 64)] := by unfold wid1; rw [if_neg h]
theorem wide_nil : wide [] = [] := rfl
theorem wide_cons (c : UInt8) (l : List UInt8) : wide (c :: l) = wid1 c ++ wide l := by unfold wide; simp
theorem wide_append (l m : List UInt8) : wide (l ++ m) = wide l ++ wide m := by unfold wide; simp
theorem wide_snoc (l : List UInt8) (c : UInt8) : wide (l ++ [c]) = wide l ++ wid1 c := by rw [wide_append]; unfold wide; simp
theorem wid1_len (c : UInt8) : 1 ≤ (wid1 c).length ∧ (wid1 c).length ≤ 2 := by unfold wid1; split <;> simp
theorem wide_len (l : List UInt8) : l.length ≤ (wide l).length ∧ (wide l).length ≤ 2 * l.length := by
  induction l with
  | nil => exact ⟨Nat.le_refl _, Nat.le_refl _⟩
  | cons c l ih =>
    have := wid1_len c
    rw [wide_cons, List.length_append, List.length_cons]
    omega

theorem first_low (c : UInt8) (m : List UInt8) (h : c.toNat < 128) : narrow (c :: m) = (narrow m).map (c :: ·) ∧ count (c :: m) = 1 + count m := by
  have hd := decL_low c m h
  refine ⟨?_, ?_⟩
  · rw [narrow_yes (by rw [hd]; show c.toNat ≤ 255; omega), hd]
    show Option.map (fun x => UInt8.ofNat c.toNat :: x) (narrow m) = _
    rw [UInt8.ofNat_toNat]
  · rw [count_cons, hd]; rfl
theorem first_wid (c : UInt8) (m : List UInt8) : narrow (wid1 c ++ m) = (narrow m).map (c :: ·) ∧ count (wid1 c ++ m) = 1 + count m := by
  by_cases h : c.toNat < 128
  · rw [wid1_low h]; exact first_low c m h
  · rw [wid1_high h]
    have lc := c.toNat_lt
    have hd := decL_two (UInt8.ofNat (192 + c.toNat / 64)) (UInt8.ofNat (128 + c.toNat % 64)) m c.toNat (by omega) (by omega) (ofNat_toNat _ (by omega)) (ofNat_toNat _ (by omega))
    show narrow (UInt8.ofNat (192 + c.toNat / 64) :: UInt8.ofNat (128 + c.toNat % 64) :: m) = _ ∧ count (UInt8.ofNat (192 + c.toNat / 64) :: UInt8.ofNat (128 + c.toNat % 64) :: m) = _
    refine ⟨?_, ?_⟩
    · rw [narrow_yes (by rw [hd]; show c.toNat ≤ 255; omega), hd]
      show Option.map (fun x => UInt8.ofNat c.toNat :: x) (narrow m) = _
      rw [UInt8.ofNat_toNat]
    · rw [count_cons, hd]; rfl
/-- What is made wide is made narrow again, and has as many characters as the text has bytes. -/
theorem narrow_wide (l m : List UInt8) : narrow (wide l ++ m) = (narrow m).map (l ++ ·) ∧ count (wide l ++ m) = l.length + count m := by
  induction l with
  | nil => rw [wide_nil]; simp
  | cons c l ih =>
    have := first_wid c (wide l ++ m)
    rw [wide_cons, List.append_assoc, this.1, this.2, ih.1, ih.2]
    refine ⟨?_, by simp; omega⟩
    cases narrow m <;> simp
theorem narrow_wide0 (l : List UInt8) : narrow (wide l) = some l ∧ count (wide l) = l.length := by
  have := narrow_wide l []
  rw [List.append_nil, narrow_nil, count_nil] at this
  simpa using this
/-- What is narrow is made wide to the text. -/
theorem wide_narrow (n : Nat) : ∀ (l x : List UInt8), l.length ≤ n → narrow l = some x → l = wide x := by
  induction n with
  | zero =>
    intro l x hl hx
    obtain rfl : l = [] := List.length_eq_zero_iff.1 (by omega)
    rw [narrow_nil] at hx
    cases hx
    rfl
  | succ n ih =>
    intro l x hl hx
    cases l with
    | nil => rw [narrow_nil] at hx; cases hx; rfl
    | cons a r =>
      by_cases hd : (decL (a :: r)).1 ≤ 255
      · by_cases ha : a.toNat < 128
        · rw [(first_low a r ha).1] at hx
          obtain ⟨y, hy, rfl⟩ := Option.map_eq_some_iff.1 hx
          rw [wide_cons, wid1_low ha, ← ih r y (by simp at hl; omega) hy]
          rfl
        · obtain ⟨b, r', rfl, h1, h2, h3, h4⟩ := decL_high a r (by omega) hd
          rw [narrow_yes hd, h2] at hx
          obtain ⟨y, hy, rfl⟩ := Option.map_eq_some_iff.1 hx
          have hy' : narrow r' = some y := hy
          rw [wide_cons, ← ih r' y (by simp at hl; omega) hy']
          have e := ofNat_toNat _ hd
          rw [wid1_high (by rw [e]; omega), e, ← h3, ← h4, UInt8.ofNat_toNat, UInt8.ofNat_toNat]
          rfl
      · rw [narrow_no hd] at hx; cases hx
theorem narrow_some {l x : List UInt8} (h : narrow l = some x) : l = wide x := wide_narrow l.length l x (Nat.le_refl _) h
theorem count_narrow {l x : List UInt8} (h : narrow l = some x) : count l = x.length := by
  rw [narrow_some h]; exact (narrow_wide0 x).2
theorem wide_inj {l m : List UInt8} (h : wide l = wide m) : l = m := by
  have := (narrow_wide0 l).1
  rw [h, (narrow_wide0 m).1] at this
  exact (Option.some.inj this).symm
theorem narrow_both {a b x y : List UInt8} (ha : narrow a = some x) (hb : narrow b = some y) : narrow (a ++ b) = some (x ++ y) := by
  rw [narrow_some ha, (narrow_wide x b).1, hb]; rfl

theorem plain_cons (c : UInt8) (l : List UInt8) : plainB (c :: l) = (decide (c.toNat < 128) && plainB l) := rfl
theorem plain_append (l m : List UInt8) : plainB (l ++ m) = (plainB l && plainB m) := by unfold plainB; simp
theorem wide_plain {l : List UInt8} (h : plainB l = true) : wide l = l := by
  induction l with
  | nil => rfl
  | cons c l ih =>
    rw [plain_cons] at h
    simp at h
    rw [wide_cons, wid1_low h.1, ih h.2]; rfl
theorem wide_other {l : List UInt8} (h : plainB l = false) : wide l ≠ l ∧ plainB (wide l) = false := by
  induction l with
  | nil => cases h
  | cons c l ih =>
    by_cases hc : c.toNat < 128
    · rw [plain_cons, decide_eq_true hc, Bool.true_and] at h
      obtain ⟨h1, h2⟩ := ih h
      rw [wide_cons, wid1_low hc]
      refine ⟨fun e => h1 (by simpa using e), ?_⟩
      show plainB (c :: wide l) = false
      rw [plain_cons, h2, Bool.and_false]
    · have lc := c.toNat_lt
      have hl := wide_len l
      rw [wide_cons, wid1_high hc]
      refine ⟨fun e => ?_, ?_⟩
      · have := congrArg List.length e
        simp at this
        omega
      · show plainB (UInt8.ofNat (192 + c.toNat / 64) :: _) = false
        rw [plain_cons, ofNat_toNat _ (by omega), decide_eq_false (by omega), Bool.false_and]
theorem plain_wide (l : List UInt8) : plainB (wide l) = plainB l := by
  cases h : plainB l
  · exact (wide_other h).2
  · rw [wide_plain h]; exact h
theorem narrow_plain {l : List UInt8} (h : plainB l = true) : narrow l = some l := by
  have := (narrow_wide0 l).1
  rwa [wide_plain h] at this
theorem count_plain {l : List UInt8} (h : plainB l = true) (m : List UInt8) : count (l ++ m) = l.length + count m := by
  have := (narrow_wide l m).2
  rwa [wide_plain h] at this
theorem count_plain0 {l : List UInt8} (h : plainB l = true) : count l = l.length := by
  have := count_plain h []
  rwa [List.append_nil, count_nil] at this
theorem count_le (n : Nat) : ∀ l : List UInt8, l.length ≤ n → count l ≤ l.length := by
  induction n with
  | zero =>
    intro l hl
    obtain rfl : l = [] := List.length_eq_zero_iff.1 (by omega)
    rw [count_nil]; exact Nat.le_refl _
  | succ n ih =>
    intro l hl
    cases l with
    | nil => rw [count_nil]; exact Nat.le_refl _
    | cons a r =>
      have := ih (r.drop ((decL (a :: r)).2 - 1)) (by simp at *; omega)
      rw [count_cons]
      simp at *
      omega
theorem count_len (l : List UInt8) : count l ≤ l.length := count_le _ l (Nat.le_refl _)
theorem count_zero (l : List UInt8) : count l = 0 ↔ l = [] := by
  cases l with
  | nil => simp [count_nil]
  | cons a r => rw [count_cons]; simp

/-- One step of a range over a text. -/
theorem drop_cons (s : ByteArray) (k : Nat) (h : k < s.size) : s.data.toList.drop k = s[k] :: s.data.toList.drop (k + 1) :=
  List.drop_eq_getElem_cons (l := s.data.toList) (i := k) h
theorem step_count (s : ByteArray) (k : Nat) (h : k < s.size) : 1 ≤ (Utf8.decode s k).2 ∧ count (s.data.toList.drop k) = 1 + count (s.data.toList.drop (k + (Utf8.decode s k).2)) := by
  rw [decode_drop s k, drop_cons s k h]
  have hw := decL_width s[k] (s.data.toList.drop (k + 1))
  refine ⟨hw, ?_⟩
  rw [count_cons, List.drop_drop]
  congr 3
  omega
theorem step_narrow (s : ByteArray) (k : Nat) (h : k < s.size) (hd : (Utf8.decode s k).1 ≤ 255) :
    narrow (s.data.toList.drop k) = (narrow (s.data.toList.drop (k + (Utf8.decode s k).2))).map (UInt8.ofNat (Utf8.decode s k).1 :: ·) := by
  rw [decode_drop s k, drop_cons s k h] at *
  have hw := decL_width s[k] (s.data.toList.drop (k + 1))
  rw [narrow_yes hd, List.drop_drop]
  congr 3
  omega
theorem step_none (s : ByteArray) (k : Nat) (h : k < s.size) (hd : ¬ (Utf8.decode s k).1 ≤ 255) : narrow (s.data.toList.drop k) = none := by
  rw [decode_drop s k, drop_cons s k h] at *
  exact narrow_no hd

end Go.Proofs.Ytkhpbcdjmcpgdaa.Iso
