/-
  Name(s), the document's Name, its blank.
-/
import Derived.Lib.Bytealg
import Derived.Lib.IndexBytes
import Derived.BigQuiet
import Derived.Test.YtbgebolamkfnlaaDoorHdFacts
import Derived.Test.YtbgebolamkfnlaaDoorPaStrs
namespace Go.Proofs.YtbgebolamkfnlaaDoor.Head
set_option linter.unusedSimpArgs false
set_option linter.unusedVariables false
set_option maxRecDepth 100000


open Go.RowKit Go.Shelf

open Url


theorem byte_back (x : UInt8) : ((x.toNat : Int)).toNat.toUInt8 = x := by
  rw [Int.toNat_natCast]; exact UInt8.ofNat_toNat

theorem get_mem (s : ByteArray) (k : Nat) (h : k < s.size) : s[k] ∈ s.data.toList := List.getElem_mem (l := s.data.toList) (n := k) h

theorem name_not (s : ByteArray) (k : Nat) (h : k < s.size) (hd : inN s[k] = false) : nameB s.data.toList = false := by
  unfold nameB
  have : s.data.toList.all inN = false := by
    rw [List.all_eq_false]
    exact ⟨s[k], get_mem s k h, by simp [hd]⟩
  rw [this]; rfl

theorem all_snoc (p : UInt8 → Bool) (s : ByteArray) (k : Nat) (h : k < s.size) (hp : (s.data.toList.take k).all p = true) (hd : p s[k] = true) : (s.data.toList.take (k + 1)).all p = true := by
  rw [Ascii.take_snoc s k h, List.all_append, hp]
  simp [hd]

theorem all_whole (p : UInt8 → Bool) (s : ByteArray) (h : (s.data.toList.take s.size).all p = true) : s.data.toList.all p = true := by
  rwa [List.take_of_length_le (by exact Nat.le_refl _)] at h

theorem ne_empty (s : ByteArray) : decide (s.data.toList ≠ []) = !s.toList.isEmpty := by
  rw [ByteArray.toList_eq]
  cases s.data.toList <;> rfl

end Go.Proofs.YtbgebolamkfnlaaDoor.Head
