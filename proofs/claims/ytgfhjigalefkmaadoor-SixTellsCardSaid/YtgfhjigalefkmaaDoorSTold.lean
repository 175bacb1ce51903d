/-
  How far a pass over the bytes has told the parts between colons.
-/
import Derived.Test.YtgfhjigalefkmaaDoorSRefShow
namespace Go.Proofs.YtgfhjigalefkmaaDoor.Six
set_option linter.unusedSimpArgs false
set_option linter.unusedVariables false
theorem parts_split (a r : List UInt8) (h : (58 : UInt8) ∉ a) : ∃ x T, parts (a ++ r) = (a ++ x) :: T := by
  rcases first_colon r with hn | ⟨b, r', rfl, hn⟩
  · exact ⟨r, [], parts_none _ (by simp [h, hn])⟩
  · refine ⟨b, parts r', ?_⟩
    rw [← List.append_assoc, parts_cons _ _ (by simp [h, hn])]
theorem okC_no (t : List UInt8) (h : t.all okC = true) : (58 : UInt8) ∉ t := by
  intro hm
  have := List.all_eq_true.1 h 58 hm
  rw [okC_colon] at this
  cases this
/-- All parts behind the first bytes but the last one are told; the last one is open. -/
def Told (l : List UInt8) (k : Nat) (C : List (List UInt8)) (t : List UInt8) : Prop := parts l = C ++ parts (t ++ l.drop k) ∧ C.all okP = true ∧ t.length ≤ 4 ∧ t.all okC = true
theorem told_zero (l : List UInt8) : Told l 0 [] [] := ⟨by simp, rfl, by simp, rfl⟩
theorem all_snoc (C : List (List UInt8)) (t : List UInt8) (h : C.all okP = true) (ht : t.length ≤ 4) (hc : t.all okC = true) (hn : t ≠ []) : (C ++ [t]).all okP = true := by
  rw [List.all_append, h]
  have : 1 ≤ t.length := by cases t with
    | nil => exact absurd rfl hn
    | cons c r => simp
  simp [(okP_iff t).2 ⟨this, ht, hc⟩]
theorem told_colon {l : List UInt8} {k : Nat} {C : List (List UInt8)} {t : List UInt8} (h : Told l k C t) (hk : k < l.length) (hc : l[k] = 58) (hn : t ≠ []) : Told l (k + 1) (C ++ [t]) [] := by
  obtain ⟨h1, h2, h3, h4⟩ := h
  refine ⟨?_, all_snoc C t h2 h3 h4 hn, by simp, rfl⟩
  rw [h1, List.drop_eq_getElem_cons hk, hc, parts_cons _ _ (okC_no t h4)]
  simp
theorem told_end {l : List UInt8} {k : Nat} {C : List (List UInt8)} {t : List UInt8} (h : Told l k C t) (hk : l.length ≤ k) (hn : t ≠ []) : parts l = C ++ [t] ∧ (parts l).all okP = true := by
  obtain ⟨h1, h2, h3, h4⟩ := h
  rw [List.drop_eq_nil_of_le hk, List.append_nil, parts_none _ (okC_no t h4)] at h1
  exact ⟨h1, by rw [h1]; exact all_snoc C t h2 h3 h4 hn⟩
theorem told_empty {l : List UInt8} {k : Nat} {C : List (List UInt8)} (h : Told l k C []) (hk : l.length ≤ k ∨ ∃ h : k < l.length, l[k] = 58) : (parts l).all okP = false := by
  obtain ⟨h1, h2, h3, h4⟩ := h
  have : ∃ T, parts ([] ++ l.drop k) = [] :: T := by
    rcases hk with hk | ⟨hk, hc⟩
    · rw [List.drop_eq_nil_of_le hk]; exact ⟨[], rfl⟩
    · rw [List.drop_eq_getElem_cons hk, hc]; exact ⟨parts (l.drop (k + 1)), by simp [parts]⟩
  obtain ⟨T, hT⟩ := this
  rw [h1, hT, List.all_append]
  simp [okP]
theorem told_next {l : List UInt8} {k : Nat} {C : List (List UInt8)} {t : List UInt8} (h : Told l k C t) (hk : k < l.length) (hc : okC l[k] = true) (ht : t.length < 4) : Told l (k + 1) C (t ++ [l[k]]) := by
  obtain ⟨h1, h2, h3, h4⟩ := h
  refine ⟨?_, h2, by simp; omega, by rw [List.all_append, h4]; simp [hc]⟩
  rw [h1, List.drop_eq_getElem_cons hk]
  simp
theorem told_bad {l : List UInt8} {k : Nat} {C : List (List UInt8)} {t : List UInt8} (h : Told l k C t) (hk : k < l.length) (hc : l[k] ≠ 58) (hb : okC l[k] = false ∨ 4 ≤ t.length) : (parts l).all okP = false := by
  obtain ⟨h1, h2, h3, h4⟩ := h
  obtain ⟨x, T, hx⟩ := parts_split (t ++ [l[k]]) (l.drop (k + 1)) (by simp [okC_no t h4]; exact fun e => hc e.symm)
  have e : t ++ l.drop k = (t ++ [l[k]]) ++ l.drop (k + 1) := by rw [List.drop_eq_getElem_cons hk]; simp
  rw [h1, e, hx, List.all_append]
  have : okP (t ++ [l[k]] ++ x) = false := by
    cases ho : okP (t ++ [l[k]] ++ x)
    · rfl
    · obtain ⟨_, o2, o3⟩ := (okP_iff _).1 ho
      rcases hb with hb | hb
      · rw [List.all_append, List.all_append] at o3
        simp [hb] at o3
      · simp at o2; omega
  rw [List.all_cons, this]
  simp
/-- Where the pass stands: still within, or behind the last byte. -/
def Pass (l : List UInt8) (k : Nat) (C : List (List UInt8)) (t : List UInt8) : Prop := (k ≤ l.length ∧ Told l k C t) ∨ (k = l.length + 1 ∧ t = [] ∧ parts l = C ∧ (parts l).all okP = true)
/-- As the document's pieces has it. -/
def valR (l : List UInt8) : List Nat := if okL l then valL l else []
theorem okL_parts (l : List UInt8) (h : l ≠ []) : okL l = (parts l).all okP ∧ valL l = (parts l).map valN := by
  have hi : l.isEmpty = false := by cases l <;> simp_all
  unfold okL valL
  rw [hi]
  exact ⟨rfl, rfl⟩
theorem parts_len_le {l : List UInt8} {k : Nat} {C : List (List UInt8)} {t : List UInt8} (h : Told l k C t) : C.length ≤ l.length := by
  have h1 := congrArg List.length h.1
  rw [List.length_append] at h1
  have := parts_le l
  have : 1 ≤ (parts (t ++ l.drop k)).length := List.length_pos_iff.2 (parts_ne _)
  omega
end Go.Proofs.YtgfhjigalefkmaaDoor.Six
