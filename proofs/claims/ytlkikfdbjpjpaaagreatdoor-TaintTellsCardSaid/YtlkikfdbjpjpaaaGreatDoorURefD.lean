/-
  The document's functions of layer 8: segments.
-/
import Derived.Test.YtlkikfdbjpjpaaaGreatDoorURefA
namespace Go.Proofs.YtlkikfdbjpjpaaaGreatDoor.Url
set_option linter.unusedSimpArgs false
set_option linter.unusedVariables false
set_option maxRecDepth 100000


open Go.RowKit Go.Shelf

set_option maxRecDepth 100000
def SegSt (S : ByteArray) (L : List T) (k j : Nat) (os : List T) : Prop :=
  (j ≤ S.size ∧ (47 : UInt8) ∉ (S.data.toList.drop k).take (j - k) ∧ os ++ Path.split (Path.enc (S.data.toList.drop k)) = L) ∨ (j = S.size + 1 ∧ os = L)

theorem piece_mid (s : ByteArray) (k j : Nat) : s.extract k j = tb ((s.data.toList.take j).drop k) := by
  apply ByteArray.ext
  apply Array.toList_inj.1
  rw [Ascii.extract_list]; rfl

theorem mid_len (s : ByteArray) (k j : Nat) : (tb ((s.data.toList.take j).drop k)).size ≤ s.size := by
  rw [tb_size, List.length_drop, List.length_take, size_list]; omega

theorem seg_end {S : ByteArray} {L : List T} {k : Nat} {os : List T} (hk : k ≤ S.size) (h : SegSt S L k S.size os) : SegSt S L (S.size + 1) (S.size + 1) (os ++ [Path.enc ((S.data.toList.take S.size).drop k)]) := by
  rcases h with ⟨_, h1, h2⟩ | ⟨h, _⟩
  · refine .inr ⟨rfl, ?_⟩
    have e : S.data.toList.take S.size = S.data.toList := by rw [← size_list, List.take_length]
    rw [e]
    have e2 : (S.data.toList.drop k).take (S.size - k) = S.data.toList.drop k := List.take_of_length_le (by rw [List.length_drop, size_list]; exact Nat.le_refl _)
    rw [e2] at h1
    rw [Path.split_none _ (Path.enc_no _ h1)] at h2
    exact h2
  · omega

theorem seg_cut {S : ByteArray} {L : List T} {k j : Nat} {os : List T} (hk : k ≤ j) (hj : j < S.size) (h : SegSt S L k j os) (hc : S[j] = 47) : SegSt S L (j + 1) (j + 1) (os ++ [Path.enc ((S.data.toList.take j).drop k)]) := by
  rcases h with ⟨_, h1, h2⟩ | ⟨h, _⟩
  · refine .inl ⟨by omega, by simp, ?_⟩
    have e : S.data.toList.drop k = (S.data.toList.drop k).take (j - k) ++ 47 :: S.data.toList.drop (j + 1) := by
      rw [← hc, ← Pct.drop_cons S j hj]
      conv => lhs; rw [← List.take_append_drop (j - k) (S.data.toList.drop k)]
      rw [List.drop_drop, show k + (j - k) = j by omega]
    have e3 : (S.data.toList.take j).drop k = (S.data.toList.drop k).take (j - k) := by rw [List.drop_take]
    rw [e, Path.split_enc_cons _ _ h1] at h2
    rw [e3, List.append_assoc]
    exact h2
  · omega

theorem seg_on {S : ByteArray} {L : List T} {k j : Nat} {os : List T} (hk : k ≤ j) (hj : j < S.size) (h : SegSt S L k j os) (hc : S[j] ≠ 47) : SegSt S L k (j + 1) os := by
  rcases h with ⟨_, h1, h2⟩ | ⟨h, _⟩
  · refine .inl ⟨by omega, ?_, h2⟩
    have hd : (S.data.toList.drop k)[j - k]? = some S[j] := by
      rw [List.getElem?_drop, show k + (j - k) = j by omega]
      exact List.getElem?_eq_getElem (l := S.data.toList) (i := j) hj
    rw [show j + 1 - k = (j - k) + 1 by omega, List.take_add_one, hd]
    intro hm
    rcases List.mem_append.1 hm with hm | hm
    · exact h1 hm
    · simp at hm; exact hc hm.symm
  · omega

end Go.Proofs.YtlkikfdbjpjpaaaGreatDoor.Url
