/-
  The document's functions of layer 13: Name, Value, trim, field.
-/
import Derived.Test.YtbgebolamkfnlaaDoorHdOut
namespace Go.Proofs.YtbgebolamkfnlaaDoor.Head
set_option linter.unusedSimpArgs false
set_option linter.unusedVariables false
set_option maxRecDepth 100000


open Go.RowKit Go.Shelf

open Url

open Path (Strs tx infoText MaxAt)


/-! ### trim -/
theorem blank_def (x : UInt8) : blankB x = (((x.toNat : Int) == 32) || ((x.toNat : Int) == 9)) := by
  unfold blankB blanks
  rw [Bool.eq_iff_iff]
  simp [← UInt8.toNat_inj]
  omega

theorem blank_ways (x : UInt8) : (blankB x = true ∧ (((x.toNat : Int) == 32) = true ∨ (((x.toNat : Int) == 32) = false ∧ ((x.toNat : Int) == 9) = true))) ∨ (blankB x = false ∧ ((x.toNat : Int) == 32) = false ∧ ((x.toNat : Int) == 9) = false) := by
  rw [blank_def]
  cases ((x.toNat : Int) == 32) <;> cases ((x.toNat : Int) == 9) <;> simp

theorem blank_first (c : ByteArray) (h : 0 < c.size) (hb : blankB c[0] = true) : trimB (c.extract 1 c.size).data.toList = trimB c.data.toList := by
  rw [Ascii.extract_list, List.take_of_length_le (by exact Nat.le_refl _)]
  have e : c.data.toList = c[0] :: c.data.toList.drop 1 := List.drop_eq_getElem_cons (l := c.data.toList) (i := 0) h
  conv => rhs; rw [e]
  rw [trim_ahead _ _ hb]

theorem blank_last (c : ByteArray) (h : 0 < c.size) (hb : blankB c[c.size - 1] = true) : trimB (c.extract 0 (c.size - 1)).data.toList = trimB c.data.toList := by
  rw [Ascii.extract_list, List.drop_zero]
  conv => rhs; rw [Ascii.snoc_last c h]
  rw [trim_behind _ _ hb]

theorem fr_of (c : ByteArray) (h : ∀ h : 0 < c.size, blankB c[0] = false) : Fr c.data.toList := by
  by_cases h0 : 0 < c.size
  · exact .inr ⟨c[0], c.data.toList.drop 1, List.drop_eq_getElem_cons (l := c.data.toList) (i := 0) h0, h h0⟩
  · exact .inl (List.eq_nil_of_length_eq_zero (by show c.size = 0; omega))

theorem bk_of (c : ByteArray) (h : ∀ h : 0 < c.size, blankB c[c.size - 1] = false) : Bk c.data.toList := by
  by_cases h0 : 0 < c.size
  · exact .inr ⟨_, _, Ascii.snoc_last c h0, h h0⟩
  · exact .inl (List.eq_nil_of_length_eq_zero (by show c.size = 0; omega))

theorem fr_less (c : ByteArray) (h : Fr c.data.toList) : Fr (c.extract 0 (c.size - 1)).data.toList := by
  rw [Ascii.extract_list, List.drop_zero]
  rcases h with h | ⟨x, r, h, hx⟩
  · rw [h]; exact .inl (by simp)
  · rw [h]
    cases hn : c.size - 1 with
    | zero => exact .inl rfl
    | succ n => exact .inr ⟨x, r.take n, by rw [List.take_succ_cons], hx⟩

theorem trim_end (c s : ByteArray) (h1 : Fr c.data.toList) (h2 : Bk c.data.toList) (h : trimB c.data.toList = trimB s.data.toList) : c = tb (trimB s.data.toList) := by
  rw [← h, trim_same h1 h2, tb_of]

theorem snoc_has (l : T) (x c : UInt8) : (l ++ [x]).contains c = (l.contains c || ((x.toNat : Int) == (c.toNat : Int))) := by
  rw [Bool.eq_iff_iff]
  simp only [List.contains_iff_mem, List.mem_append, List.mem_singleton, Bool.or_eq_true, beq_iff_eq]
  constructor
  · rintro (h | rfl)
    · exact .inl h
    · exact .inr rfl
  · rintro (h | h)
    · exact .inl h
    · exact .inr (UInt8.toNat_inj.1 (by omega))

theorem signs_step (b : Bool) (c : UInt8) (O : ByteArray) (hO : O.data.toList = signs) (k : Nat) (h : k < O.size) : (b || (signs.take (k + 1)).contains c) = ((b || (signs.take k).contains c) || ((O[k].toNat : Int) == (c.toNat : Int))) := by
  rw [← hO, Ascii.take_snoc O k h, snoc_has, Bool.or_assoc]

theorem bad_def (x : UInt8) : bads.contains x = ((((x.toNat : Int) == 0) || ((x.toNat : Int) == 10)) || ((x.toNat : Int) == 13)) := by
  unfold bads
  rw [Bool.eq_iff_iff]
  simp [← UInt8.toNat_inj]
  omega

theorem bad_ways (x : UInt8) : (bads.contains x = true ∧ (((x.toNat : Int) == 0) = true ∨ (((x.toNat : Int) == 0) = false ∧ ((x.toNat : Int) == 10) = true) ∨ (((x.toNat : Int) == 0) = false ∧ ((x.toNat : Int) == 10) = false ∧ ((x.toNat : Int) == 13) = true))) ∨
    (bads.contains x = false ∧ ((x.toNat : Int) == 0) = false ∧ ((x.toNat : Int) == 10) = false ∧ ((x.toNat : Int) == 13) = false) := by
  rw [bad_def]
  cases ((x.toNat : Int) == 0) <;> cases ((x.toNat : Int) == 10) <;> cases ((x.toNat : Int) == 13) <;> simp

def OkAt (s : ByteArray) (i : Nat) : Prop := ∀ h : i < s.size, bads.contains s[i] = false ∧ (blankB s[i] = true → i ≠ 0 ∧ i ≠ s.size - 1)

theorem val_all (s : ByteArray) (h : ∀ i, i < s.size → OkAt s i) : valB s.data.toList = true := by
  unfold valB
  have h1 : s.data.toList.any bads.contains = false := by
    rw [List.any_eq_false]
    intro x hx
    obtain ⟨i, hi, rfl⟩ := List.mem_iff_getElem.1 hx
    have := (h i hi hi).1
    intro e
    rw [show s.data.toList[i] = s[i] from rfl, this] at e
    cases e
  rw [h1]
  have h2 : trimB s.data.toList = s.data.toList := trim_same
    (fr_of s fun h0 => by
      cases hb : blankB s[0]
      · rfl
      · exact absurd rfl ((h 0 h0 h0).2 hb).1)
    (bk_of s fun h0 => by
      cases hb : blankB s[s.size - 1]
      · rfl
      · exact absurd rfl ((h (s.size - 1) (by omega) (by omega)).2 hb).2)
  rw [h2]
  simp

theorem fr_at {s : ByteArray} (h : Fr s.data.toList) (h0 : 0 < s.size) : blankB s[0] = false := by
  rcases h with h | ⟨c, r, h, hc⟩
  · have hl : s.data.toList.length = s.size := rfl
    rw [h] at hl
    simp at hl
    omega
  · have e : s.data.toList[0]? = some s[0] := List.getElem?_eq_getElem (l := s.data.toList) (i := 0) h0
    rw [h] at e
    simp at e
    rw [← e]; exact hc

theorem bk_at {s : ByteArray} (h : Bk s.data.toList) (h0 : 0 < s.size) : blankB s[s.size - 1] = false := by
  rcases h with h | ⟨r, c, h, hc⟩
  · have hl : s.data.toList.length = s.size := rfl
    rw [h] at hl
    simp at hl
    omega
  · have hl : s.data.toList.length = s.size := rfl
    have e : s.data.toList[s.size - 1]? = some s[s.size - 1] := List.getElem?_eq_getElem (l := s.data.toList) (i := s.size - 1) (by omega)
    rw [h, List.length_append, List.length_cons, List.length_nil] at hl
    rw [h, List.getElem?_append_right (by omega), show s.size - 1 - r.length = 0 by omega] at e
    simp at e
    rw [← e]; exact hc

theorem val_some (s : ByteArray) (i : Nat) (h : i < s.size) (hb : bads.contains s[i] = true ∨ blankB s[i] = true ∧ (i = 0 ∨ i = s.size - 1)) : valB s.data.toList = false := by
  cases hv : valB s.data.toList
  · rfl
  · exfalso
    have h1 := val_bads hv s[i] (get_mem s i h)
    have h2 := (trim_iff _).1 (val_same hv)
    rcases hb with hb | ⟨hb, rfl | rfl⟩
    · rw [h1] at hb; cases hb
    · rw [fr_at h2.1 h] at hb; cases hb
    · rw [bk_at h2.2 (by omega)] at hb; cases hb

theorem part_at (s : ByteArray) (k : Nat) (h : k < s.size) (hc : s[k] = 58) (hn : (58 : UInt8) ∉ s.data.toList.take k) :
    s.data.toList.contains 58 = true ∧ bef 58 s.data.toList = (s.extract 0 k).data.toList ∧ aft 58 s.data.toList = (s.extract (k + 1) s.size).data.toList := by
  have hw : s.data.toList = s.data.toList.take k ++ 58 :: s.data.toList.drop (k + 1) := by
    have := List.drop_eq_getElem_cons (l := s.data.toList) (i := k) h
    rw [show s.data.toList[k] = s[k] from rfl, hc] at this
    rw [← this, List.take_append_drop]
  refine ⟨?_, ?_, ?_⟩
  · rw [hw]; simp
  · rw [Ascii.extract_list, List.drop_zero]
    conv => lhs; rw [hw]
    rw [bef_at _ _ hn]
  · rw [Ascii.extract_list, List.take_of_length_le (by exact Nat.le_refl _)]
    conv => lhs; rw [hw]
    rw [aft_at _ _ hn]

theorem field_is {s : T} {x y : ByteArray} (h0 : s.contains 58 = true) (h1 : bef 58 s = x.data.toList) (h2 : trimB (aft 58 s) = y.data.toList) : (fieldO s).isSome = (nameB x.data.toList && valB y.data.toList) ∧ ∀ f, fieldO s = some f → f = (x.data.toList, y.data.toList) := by
  unfold fieldO
  rw [h0, h1, h2]
  cases nameB x.data.toList <;> cases valB y.data.toList <;> simp

theorem take_not (s : ByteArray) (k : Nat) (h : k < s.size) (hc : s[k] ≠ 58) (hn : (58 : UInt8) ∉ s.data.toList.take k) : (58 : UInt8) ∉ s.data.toList.take (k + 1) := by
  rw [Ascii.take_snoc s k h]
  intro hm
  rcases List.mem_append.1 hm with h1 | h1
  · exact hn h1
  · exact hc (List.mem_singleton.1 h1).symm

end Go.Proofs.YtbgebolamkfnlaaDoor.Head
