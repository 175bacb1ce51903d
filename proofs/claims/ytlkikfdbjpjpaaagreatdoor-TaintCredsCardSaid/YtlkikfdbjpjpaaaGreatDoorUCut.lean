/-
  What stands ahead of, and behind, the first and the last place of a byte; what ascii's Clean does to texts put together. Plain functions of lists.
-/
import Derived.Lib.IndexMore
import Derived.Lib.LastIndexLaws
import Derived.Test.YtlkikfdbjpjpaaaGreatDoorAscii
namespace Go.Proofs.YtlkikfdbjpjpaaaGreatDoor.Url
set_option linter.unusedSimpArgs false
set_option linter.unusedVariables false
set_option maxRecDepth 100000


abbrev T := List UInt8

def bef (c : UInt8) (l : T) : T := l.takeWhile (fun x => x != c)

def aft (c : UInt8) (l : T) : T := (l.dropWhile (fun x => x != c)).drop 1

theorem bef_nil (c : UInt8) : bef c [] = [] := rfl

theorem aft_nil (c : UInt8) : aft c [] = [] := rfl

theorem bef_hit (c : UInt8) (r : T) : bef c (c :: r) = [] := by simp [bef, List.takeWhile]

theorem aft_hit (c : UInt8) (r : T) : aft c (c :: r) = r := by simp [aft, List.dropWhile]

theorem bef_miss {c x : UInt8} (r : T) (h : x ≠ c) : bef c (x :: r) = x :: bef c r := by unfold bef; rw [List.takeWhile_cons_of_pos (by simp [h])]

theorem aft_miss {c x : UInt8} (r : T) (h : x ≠ c) : aft c (x :: r) = aft c r := by unfold aft; rw [List.dropWhile_cons_of_pos (by simp [h])]

theorem bef_app {c : UInt8} (a b : T) (h : c ∉ a) : bef c (a ++ b) = a ++ bef c b := by
  induction a with
  | nil => rfl
  | cons x a ih =>
    simp only [List.mem_cons, not_or] at h
    rw [List.cons_append, bef_miss _ (Ne.symm h.1), ih h.2, List.cons_append]

theorem aft_app {c : UInt8} (a b : T) (h : c ∉ a) : aft c (a ++ b) = aft c b := by
  induction a with
  | nil => rfl
  | cons x a ih =>
    simp only [List.mem_cons, not_or] at h
    rw [List.cons_append, aft_miss _ (Ne.symm h.1), ih h.2]

theorem bef_at {c : UInt8} (a r : T) (h : c ∉ a) : bef c (a ++ c :: r) = a := by rw [bef_app _ _ h, bef_hit, List.append_nil]

theorem aft_at {c : UInt8} (a r : T) (h : c ∉ a) : aft c (a ++ c :: r) = r := by rw [aft_app _ _ h, aft_hit]

theorem bef_no {c : UInt8} (l : T) (h : c ∉ l) : bef c l = l := by have := bef_app l [] h; rwa [List.append_nil, bef_nil, List.append_nil] at this

theorem aft_no {c : UInt8} (l : T) (h : c ∉ l) : aft c l = [] := by have := aft_app l [] h; rwa [List.append_nil, aft_nil] at this

theorem parted (c : UInt8) (l : T) : c ∉ l ∨ ∃ a r, l = a ++ c :: r ∧ c ∉ a := by
  induction l with
  | nil => exact .inl (by simp)
  | cons x l ih =>
    by_cases h : x = c
    · subst h; exact .inr ⟨[], l, rfl, by simp⟩
    · rcases ih with h1 | ⟨a, r, h1, h2⟩
      · exact .inl (by simp only [List.mem_cons, not_or]; exact ⟨Ne.symm h, h1⟩)
      · exact .inr ⟨x :: a, r, by rw [h1]; rfl, by simp only [List.mem_cons, not_or]; exact ⟨Ne.symm h, h2⟩⟩

theorem bef_not (c : UInt8) (l : T) : c ∉ bef c l := by
  rcases parted c l with h | ⟨a, r, rfl, h⟩
  · rw [bef_no l h]; exact h
  · rw [bef_at _ _ h]; exact h

theorem whole (c : UInt8) (l : T) (h : c ∈ l) : l = bef c l ++ c :: aft c l := by
  rcases parted c l with h1 | ⟨a, r, rfl, h1⟩
  · exact absurd h h1
  · rw [bef_at _ _ h1, aft_at _ _ h1]

theorem bef_sub (c : UInt8) (l : T) : ∀ x ∈ bef c l, x ∈ l := fun x hx => (List.takeWhile_prefix _).subset hx

theorem aft_sub (c : UInt8) (l : T) : ∀ x ∈ aft c l, x ∈ l := fun x hx => (List.dropWhile_suffix _).subset (List.mem_of_mem_drop hx)

theorem bef_len (c : UInt8) (l : T) : (bef c l).length ≤ l.length := (List.takeWhile_prefix _).length_le

theorem aft_len (c : UInt8) (l : T) : (aft c l).length ≤ l.length := by
  have := (List.dropWhile_suffix (fun x => x != c) (l := l)).length_le
  unfold aft
  rw [List.length_drop]; omega

theorem both_len (c : UInt8) (l : T) : (bef c l).length + (aft c l).length ≤ l.length := by
  rcases parted c l with h | ⟨a, r, rfl, h⟩
  · rw [bef_no l h, aft_no l h]; simp
  · rw [bef_at _ _ h, aft_at _ _ h]; simp

theorem bef_in {c : UInt8} (a b : T) (h : c ∈ a) : bef c (a ++ b) = bef c a := by
  rcases parted c a with h1 | ⟨x, r, rfl, h1⟩
  · exact absurd h h1
  · rw [List.append_assoc, List.cons_append, bef_at _ _ h1, bef_at _ _ h1]

theorem aft_in {c : UInt8} (a b : T) (h : c ∈ a) : aft c (a ++ b) = aft c a ++ b := by
  rcases parted c a with h1 | ⟨x, r, rfl, h1⟩
  · exact absurd h h1
  · rw [List.append_assoc, List.cons_append, aft_at _ _ h1, aft_at _ _ h1]

theorem bef_take (c : UInt8) (l : T) : l.take (bef c l).length = bef c l := by
  rcases parted c l with h | ⟨a, r, rfl, h⟩
  · rw [bef_no l h]; simp
  · rw [bef_at _ _ h]; simp

theorem aft_drop (c : UInt8) (l : T) : l.drop ((bef c l).length + 1) = aft c l := by
  rcases parted c l with h | ⟨a, r, rfl, h⟩
  · rw [bef_no l h, aft_no l h]; simp
  · rw [bef_at _ _ h, aft_at _ _ h]; simp [List.drop_append]

theorem bef_full (c : UInt8) (l : T) : ((bef c l).length = l.length) ↔ c ∉ l := by
  rcases parted c l with h | ⟨a, r, rfl, h⟩
  · rw [bef_no l h]; simp [h]
  · rw [bef_at _ _ h]; simp

theorem bef_lt (c : UInt8) (l : T) : ((bef c l).length < l.length) ↔ c ∈ l := by
  have h1 := bef_full c l
  have h2 := bef_len c l
  by_cases h : c ∈ l
  · simp [h] at h1 ⊢; omega
  · simp [h] at h1 ⊢; omega

theorem has_iff (c : UInt8) (l : T) : l.contains c = true ↔ c ∈ l := List.contains_iff_mem

theorem has_no {c : UInt8} {l : T} (h : c ∉ l) : l.contains c = false := by
  cases e : l.contains c
  · rfl
  · exact absurd ((has_iff c l).1 e) h

theorem has_yes {c : UInt8} {l : T} (h : c ∈ l) : l.contains c = true := (has_iff c l).2 h

theorem idx_at {c : UInt8} (a r : T) (h : c ∉ a) : Lib.index (a ++ c :: r) [c] = (a.length : Int) := by
  induction a with
  | nil => simp [Lib.index]
  | cons x a ih =>
    simp only [List.mem_cons, not_or] at h
    rw [List.cons_append, Lib.index, ih h.2]
    rw [if_neg (by simp [List.isPrefixOf]; exact h.1), if_neg (by simp)]
    simp

theorem idx_no {c : UInt8} (l : T) (h : c ∉ l) : Lib.index l [c] = -1 := by
  induction l with
  | nil => simp [Lib.index]
  | cons x a ih =>
    simp only [List.mem_cons, not_or] at h
    rw [Lib.index, ih h.2, if_neg (by simp [List.isPrefixOf]; exact h.1), if_pos (by rfl)]

theorem cut_is (c : UInt8) (l : T) : Lib.cut l [c] = (bef c l, aft c l, l.contains c) := by
  rcases parted c l with h | ⟨a, r, rfl, h⟩
  · unfold Lib.cut; rw [idx_no l h, if_neg (by omega), bef_no l h, aft_no l h, has_no h]
  · unfold Lib.cut; rw [idx_at a r h, if_pos (by omega), bef_at _ _ h, aft_at _ _ h, has_yes (by simp)]; simp

/-! ## the last place -/

def lbef (c : UInt8) (l : T) : T := (aft c l.reverse).reverse

def laft (c : UInt8) (l : T) : T := (bef c l.reverse).reverse

theorem rev_at {c : UInt8} (a r : T) : (a ++ c :: r).reverse = r.reverse ++ c :: a.reverse := by simp

theorem lbef_at {c : UInt8} (a r : T) (h : c ∉ r) : lbef c (a ++ c :: r) = a := by
  unfold lbef; rw [rev_at, aft_at _ _ (by simpa using h), List.reverse_reverse]

theorem laft_at {c : UInt8} (a r : T) (h : c ∉ r) : laft c (a ++ c :: r) = r := by
  unfold laft; rw [rev_at, bef_at _ _ (by simpa using h), List.reverse_reverse]

theorem lbef_no {c : UInt8} (l : T) (h : c ∉ l) : lbef c l = [] := by unfold lbef; rw [aft_no _ (by simpa using h)]; rfl

theorem laft_no {c : UInt8} (l : T) (h : c ∉ l) : laft c l = l := by unfold laft; rw [bef_no _ (by simpa using h), List.reverse_reverse]

theorem lparted (c : UInt8) (l : T) : c ∉ l ∨ ∃ a r, l = a ++ c :: r ∧ c ∉ r := by
  rcases parted c l.reverse with h | ⟨a, r, h, h1⟩
  · exact .inl (by simpa using h)
  · refine .inr ⟨r.reverse, a.reverse, ?_, by simpa using h1⟩
    have := congrArg List.reverse h
    rw [List.reverse_reverse] at this
    rw [this]; simp

theorem occ_is (c : UInt8) (l : T) (i : Nat) : Lib.occAt l [c] i = true ↔ l[i]? = some c := by
  unfold Lib.occAt
  rw [← List.head?_drop]
  cases l.drop i with
  | nil => simp [List.isPrefixOf]
  | cons x r => simp [List.isPrefixOf]; exact eq_comm

theorem last_no {c : UInt8} (l : T) (h : c ∉ l) : Lib.lastIndex l [c] = -1 := by
  unfold Lib.lastIndex
  split
  · rename_i h0
    rcases Lib.lastOcc_spec l [c] (l.length - ([c] : T).length + 1) with ⟨h1, h2⟩ | ⟨k, h2, h1, h3, h4⟩
    · exact h1
    · exact absurd (List.mem_of_getElem? ((occ_is c l k).1 h3)) h
  · rfl

theorem last_is {c : UInt8} (a r : T) (h : c ∉ r) : Lib.lastIndex (a ++ c :: r) [c] = (a.length : Int) := by
  unfold Lib.lastIndex
  rw [if_pos (by simp; omega)]
  rcases Lib.lastOcc_spec (a ++ c :: r) [c] ((a ++ c :: r).length - ([c] : T).length + 1) with ⟨h1, h2⟩ | ⟨k, h2, h1, h3, h4⟩
  · have := h2 a.length (by simp; omega)
    rw [(occ_is c _ a.length).2 (by simp)] at this
    cases this
  · rw [h1]
    have hk := (occ_is c _ k).1 h3
    by_cases e : k = a.length
    · rw [e]
    · exfalso
      by_cases hlt : k < a.length
      · have := h4 a.length hlt (by simp; omega)
        rw [(occ_is c _ a.length).2 (by simp)] at this
        cases this
      · rw [List.getElem?_append_right (by omega)] at hk
        obtain ⟨j, hj⟩ : ∃ j, k - a.length = j + 1 := ⟨k - a.length - 1, by omega⟩
        rw [hj, List.getElem?_cons_succ] at hk
        exact h (List.mem_of_getElem? hk)

theorem lbef_len (c : UInt8) (l : T) : (lbef c l).length ≤ l.length := by
  have := aft_len c l.reverse
  unfold lbef
  rw [List.length_reverse] at *; exact this

theorem laft_len (c : UInt8) (l : T) : (laft c l).length ≤ l.length := by
  have := bef_len c l.reverse
  unfold laft
  rw [List.length_reverse] at *; exact this

theorem out_nil {p : UInt8 → Bool} {l : T} (h : l.dropWhile p = []) : ∀ x ∈ l, p x = true := by
  induction l with
  | nil => simp
  | cons a r ih =>
    cases ha : p a
    · rw [List.dropWhile_cons_of_neg (by simp [ha])] at h; cases h
    · rw [List.dropWhile_cons_of_pos ha] at h
      intro x hx
      rcases List.mem_cons.1 hx with rfl | hx
      · exact ha
      · exact ih h x hx
/-! ## Clean -/

theorem stays_def (l : T) : Ascii.stays l = l.filter fun c => !Ascii.breakB c := rfl

theorem break_low (c : UInt8) (h : Ascii.lowish c = false) : Ascii.breakB c = false := Ascii.lowish_break c h

theorem stays_app (a b : T) : Ascii.stays (a ++ b) = Ascii.stays a ++ Ascii.stays b := by rw [stays_def, List.filter_append]; rfl

theorem stays_rev (a : T) : Ascii.stays a.reverse = (Ascii.stays a).reverse := by rw [stays_def, List.filter_reverse]; rfl

theorem stays_out (l : T) : Ascii.stays (l.dropWhile Ascii.lowish) = (Ascii.stays l).dropWhile Ascii.lowish := by
  induction l with
  | nil => rfl
  | cons c r ih =>
    cases hc : Ascii.lowish c
    · have hb := break_low c hc
      rw [List.dropWhile_cons_of_neg (by simp [hc]), stays_def, List.filter_cons, if_pos (by simp [hb]), List.dropWhile_cons_of_neg (by simp [hc])]
    · rw [List.dropWhile_cons_of_pos hc, ih]
      cases hb : Ascii.breakB c
      · rw [stays_def (c :: r), List.filter_cons, if_pos (by simp [hb]), List.dropWhile_cons_of_pos hc]; rfl
      · rw [stays_def (c :: r), List.filter_cons, if_neg (by simp [hb])]; rfl

theorem clean_stays (l : T) : Ascii.clean l = Ascii.trim (Ascii.stays l) := by
  rw [Ascii.clean_eq]
  unfold Ascii.trim Ascii.dropEnd
  rw [stays_rev, stays_out, stays_rev, stays_out]

theorem clean_tab (a b : T) : Ascii.clean (a ++ 9 :: b) = Ascii.clean (a ++ b) := by
  rw [clean_stays, clean_stays, stays_app, stays_app]
  rfl

theorem trim_ends (l : T) : Ascii.trim (32 :: (l ++ [32])) = Ascii.trim l := by
  unfold Ascii.trim
  rw [List.dropWhile_cons_of_pos (by decide)]
  by_cases h : l.dropWhile Ascii.lowish = []
  · rw [h]
    have : ∀ x ∈ l, Ascii.lowish x = true := out_nil h
    rw [List.dropWhile_append_of_pos (fun x hx => this x hx)]
    rfl
  · rw [List.dropWhile_append, if_neg (by simpa using h), Ascii.dropEnd_ws _ _ (by decide)]

theorem clean_around (l : T) : Ascii.clean (32 :: 10 :: (l ++ [9, 32])) = Ascii.clean l := by
  rw [clean_stays, clean_stays]
  have : Ascii.stays (32 :: 10 :: (l ++ [9, 32])) = 32 :: (Ascii.stays l ++ [32]) := by
    rw [show (32 :: 10 :: (l ++ [9, 32]) : T) = [32, 10] ++ (l ++ [9, 32]) from rfl, stays_app, stays_app]; rfl
  rw [this, trim_ends]

theorem clean_len (l : T) : (Ascii.clean l).length ≤ l.length := by
  have h1 : (Ascii.clean l).length ≤ (Ascii.trim l).length := List.length_filter_le _ _
  have h2 := Ascii.trim_length l
  omega

theorem clean_same (l : T) (h : ∀ c ∈ l, 32 < c.toNat) : Ascii.clean l = l := by
  have hl : ∀ c ∈ l, Ascii.lowish c = false := fun c hc => by unfold Ascii.lowish; simp; exact h c hc
  have h1 : Ascii.stays l = l := by
    rw [stays_def, List.filter_eq_self]
    intro c hc
    rw [break_low c (hl c hc)]; rfl
  have h2 : ∀ m : T, (∀ c ∈ m, Ascii.lowish c = false) → m.dropWhile Ascii.lowish = m := by
    intro m hm
    cases m with
    | nil => rfl
    | cons x r => rw [List.dropWhile_cons_of_neg (by rw [hm x (by simp)]; simp)]
  rw [clean_stays, h1]
  unfold Ascii.trim Ascii.dropEnd
  rw [h2 l hl, h2 _ (fun c hc => hl c (by simpa using hc)), List.reverse_reverse]

/-- A text that does not end by a low byte, and another behind it. -/
theorem clean_ahead (t x : T) (ht : t = [] ∨ ∃ r c, t = r ++ [c] ∧ Ascii.lowish c = false) (hx : ∃ c r, x = c :: r ∧ Ascii.lowish c = false) :
    Ascii.clean (t ++ x) = Ascii.clean t ++ Ascii.clean x := by
  have hK : ∀ m : T, ∀ r c, Ascii.lowish c = false → Ascii.stays (m ++ (c :: r)) = Ascii.stays m ++ c :: Ascii.stays r := by
    intro m r c hc
    rw [stays_app, stays_def (c :: r), List.filter_cons, if_pos (by rw [break_low c hc]; rfl)]; rfl
  obtain ⟨c, r, rfl, hc⟩ := hx
  rcases ht with rfl | ⟨r', c', rfl, hc'⟩
  · rfl
  · rw [clean_stays, clean_stays, clean_stays, hK _ _ _ hc]
    have e1 : Ascii.stays (r' ++ [c']) = Ascii.stays r' ++ [c'] := hK r' [] c' hc'
    have e2 : Ascii.stays (c :: r) = c :: Ascii.stays r := hK [] r c hc
    rw [e1, e2]
    generalize Ascii.stays r' = A
    generalize Ascii.stays r = B
    have o1 : ∀ y : T, (A ++ [c'] ++ y).dropWhile Ascii.lowish = (A ++ [c']).dropWhile Ascii.lowish ++ y := by
      intro y
      rw [List.dropWhile_append, if_neg]
      simp only [List.isEmpty_iff]
      intro h
      have := out_nil h c' (by simp)
      rw [hc'] at this; cases this
    unfold Ascii.trim
    rw [o1, List.dropWhile_cons_of_neg (by simp [hc])]
    have o2 : Ascii.dropEnd ((A ++ [c']).dropWhile Ascii.lowish) = (A ++ [c']).dropWhile Ascii.lowish := by
      have hd : (A ++ [c']).dropWhile Ascii.lowish = A.dropWhile Ascii.lowish ++ [c'] := by
        rw [List.dropWhile_append]
        split
        · rename_i h
          rw [List.isEmpty_iff.1 h, List.dropWhile_cons_of_neg (by simp [hc'])]; rfl
        · rfl
      rw [hd, Ascii.dropEnd_no _ _ hc']
    rw [o2]
    generalize (A ++ [c']).dropWhile Ascii.lowish = D
    unfold Ascii.dropEnd
    rw [List.reverse_append, List.dropWhile_append, if_neg, List.reverse_append, List.reverse_reverse]
    simp only [List.isEmpty_iff]
    intro h
    have := out_nil h c (by simp)
    rw [hc] at this; cases this

end Go.Proofs.YtlkikfdbjpjpaaaGreatDoor.Url
