/-
  Name(s), the document's Name, its blank.
-/
import Derived.Lib.Bytealg
import Derived.Lib.IndexBytes
import Derived.BigQuiet
import Derived.Test.YtagmmdnfbjgmcaaDoorHdFacts
import Derived.Test.YtagmmdnfbjgmcaaDoorPaStrs
namespace Go.Proofs.YtagmmdnfbjgmcaaDoor.Head
set_option linter.unusedSimpArgs false
set_option linter.unusedVariables false
set_option maxRecDepth 100000


open Go.RowKit Go.Shelf

open Url


theorem byte_back (x : UInt8) : ((x.toNat : Int)).toNat.toUInt8 = x := by
  rw [Int.toNat_natCast]; exact UInt8.ofNat_toNat

theorem get_mem (s : ByteArray) (k : Nat) (h : k < s.size) : s[k] ∈ s.data.toList := List.getElem_mem (l := s.data.toList) (n := k) h

set_option maxRecDepth 100000 in
set_option maxHeartbeats 800000 in
theorem inName_any (x : UInt8) (w : World) :
    Calls Tryd.prog 43 #[.int .u8 (x.toNat : Int)] w fun e w' => e = .returned (.bool (inN x)) ∧ w = w' := by
  have hd := Lib.hid (show inN x = (Ascii.alphaB x.toNat || Ascii.digitB x.toNat || decide (0 ≤ Lib.indexByte signs x)) by unfold inN; rw [Lib.contains_iff_indexByte])
  have ca := Ascii.alpha_any (x.toNat : Int) w
  have cd := Ascii.digit_any (x.toNat : Int) w
  have ci := Tryd.strings_IndexByte ⟨#[33, 35, 36, 37, 38, 39, 42, 43, 45, 46, 94, 95, 96, 124, 126]⟩ (x.toNat : Int) w
  rw [byte_back, show (⟨#[33, 35, 36, 37, 38, 39, 42, 43, 45, 46, 94, 95, 96, 124, 126]⟩ : ByteArray).data.toList = signs from rfl] at ci
  cases h1 : Ascii.alphaB x.toNat
  · cases h2 : Ascii.digitB x.toNat
    all_goals
      rw [h1] at ca
      rw [h2] at cd
      have hv := Lib.hid (show inN x = (false || _ || decide (0 ≤ Lib.indexByte signs x)) by rw [hd.out, h1, h2])
      clear hd h1 h2
      go_enter Tryd.func43, Tryd.ntmps43
      go_wp2_with (first | (go_at_call 57; refine ca.mono ?_; rintro e w' ⟨rfl, rfl⟩) | (go_at_call 58; refine cd.mono ?_; rintro e w' ⟨rfl, rfl⟩) | (go_at_call 59; refine ci.mono ?_; rintro e w' ⟨rfl, rfl⟩))
      go_ret
      exact ⟨by rw [hv.out]; simp, rfl⟩
  · rw [h1] at ca
    have hv := Lib.hid (show inN x = true by rw [hd.out, h1]; rfl)
    clear hd h1
    go_enter Tryd.func43, Tryd.ntmps43
    go_wp2_with (go_at_call 57; refine ca.mono ?_; rintro e w' ⟨rfl, rfl⟩)
    go_ret
    exact ⟨by rw [hv.out]; rfl, rfl⟩

theorem name_not (s : ByteArray) (k : Nat) (h : k < s.size) (hd : inN s[k] = false) : nameB s.data.toList = false := by
  unfold nameB
  have : s.data.toList.all inN = false := by
    rw [List.all_eq_false]
    exact ⟨s[k], get_mem s k h, by simp [hd]⟩
  rw [this]; rfl

theorem all_snoc (p : UInt8 → Bool) (s : ByteArray) (k : Nat) (h : k < s.size) (hp : (s.data.toList.take k).all p = true) (hd : p s[k] = true) : (s.data.toList.take (k + 1)).all p = true := by
  rw [Ascii.take_snoc s k h, List.all_append, hp]
  simp [hd]

theorem all_whole (p : UInt8 → Bool) (s : ByteArray) (h : (s.data.toList.take s.size).all p = true) : s.data.toList.all p = true := by
  rwa [List.take_of_length_le (by exact Nat.le_refl _)] at h

theorem ne_empty (s : ByteArray) : decide (s.data.toList ≠ []) = !s.toList.isEmpty := by
  rw [ByteArray.toList_eq]
  cases s.data.toList <;> rfl

set_option maxRecDepth 100000 in
set_option maxHeartbeats 1000000 in
theorem name_any (s : ByteArray) (hs : s.size ≤ maxLen) (w : World) :
    Calls Tryd.prog 26 #[.string s] w fun e w' => e = .returned (.bool (nameB s.data.toList)) ∧ w = w' := by
  unfold maxLen at hs
  go_enter Tryd.func26, Tryd.ntmps26
  go_wp2
  go_loop [3, 6] (fun _ i => ∃ k : Nat, k ≤ s.size ∧ i = .int .i64 k ∧ Hid ((s.data.toList.take k).all inN = true)) (fun _ i => s.size - (intOf i).toNat)
  case atStart => exact ⟨0, Nat.zero_le _, rfl, Lib.hid rfl⟩
  case round =>
    obtain ⟨k, hk, rfl, hp⟩ := hrel
    by_cases hlt : k < s.size
    · have hcall := inName_any s[k] w
      cases hd : inN s[k]
      · rw [hd] at hcall
        have hn := Lib.hid (name_not s k hlt hd)
        clear hd
        go_wp2_with (go_at_call 43; refine hcall.mono ?_; rintro e w' ⟨rfl, rfl⟩)
        go_ret
        exact ⟨by rw [hn.out]; rfl, rfl⟩
      · rw [hd] at hcall
        have hn := Lib.hid (all_snoc inN s k hlt hp.out hd)
        clear hd
        go_wp2_with (go_at_call 43; refine hcall.mono ?_; rintro e w' ⟨rfl, rfl⟩)
        go_round
        case rel => exact ⟨k + 1, by omega, by go_num, hn⟩
        case measure => simp [intOf]; omega
    · obtain rfl : k = s.size := by omega
      have hn := Lib.hid (show nameB s.data.toList = !s.toList.isEmpty by unfold nameB; rw [all_whole inN s hp.out, ne_empty]; rfl)
      go_wp2
      go_ret
      exact ⟨by rw [hn.out]; rfl, rfl⟩

/-! ### The document's -/

set_option maxHeartbeats 800000 in
theorem refBlank_any (x : UInt8) (w : World) :
    Calls Tryd.prog 41 #[.int .u8 (x.toNat : Int)] w fun e w' => e = .returned (.bool (blankB x)) ∧ w = w' := by
  have hd := Lib.hid (show blankB x = (((x.toNat : Int) == 32) || ((x.toNat : Int) == 9)) by
    unfold blankB blanks
    rw [Bool.eq_iff_iff]
    simp [← UInt8.toNat_inj]
    omega)
  cases h1 : ((x.toNat : Int) == 32)
  · have hv := Lib.hid (show blankB x = (false || ((x.toNat : Int) == 9)) by rw [hd.out, h1])
    clear hd
    go_enter Tryd.func41, Tryd.ntmps41
    go_wp2
    go_ret
    exact ⟨by rw [hv.out]; simp, rfl⟩
  · have hv := Lib.hid (show blankB x = true by rw [hd.out, h1]; rfl)
    clear hd
    go_enter Tryd.func41, Tryd.ntmps41
    go_wp2
    go_ret
    exact ⟨by rw [hv.out]; rfl, rfl⟩

end Go.Proofs.YtagmmdnfbjgmcaaDoor.Head
