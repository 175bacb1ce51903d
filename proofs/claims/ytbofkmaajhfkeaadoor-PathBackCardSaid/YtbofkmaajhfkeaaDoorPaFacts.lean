/-
  Paths, as lists of bytes: dots, segments, what stands between slashes, encoded. Nothing of the program.
-/
import Derived.Test.YtbofkmaajhfkeaaDoorPct
import Derived.Lib.Replace
import Derived.Lib.ReplaceLaws
import Derived.Lib.IndexMore
namespace Go.Proofs.YtbofkmaajhfkeaaDoor.Path
set_option linter.unusedSimpArgs false
set_option linter.unusedVariables false

theorem snocInd {α : Type} {p : List α → Prop} (h0 : p []) (h1 : ∀ l c, p l → p (l ++ [c])) (l : List α) : p l := by
  rw [← l.reverse_reverse]
  induction l.reverse with
  | nil => exact h0
  | cons c r ih => rw [List.reverse_cons]; exact h1 _ _ ih

/-! ### What stands for a dot -/
def p2e : List UInt8 := [37, 50, 101]
def rep : List UInt8 → List UInt8
  | 37 :: 50 :: 101 :: t => 46 :: rep t
  | c :: t => c :: rep t
  | [] => []
theorem rep_nil : rep [] = [] := by simp [rep]
theorem rep_pre (t : List UInt8) : rep (37 :: 50 :: 101 :: t) = 46 :: rep t := by simp [rep]
theorem pre_iff (l : List UInt8) : p2e.isPrefixOf l = true ↔ ∃ t, l = 37 :: 50 :: 101 :: t := by
  rw [List.isPrefixOf_iff_prefix]
  constructor
  · rintro ⟨t, rfl⟩; exact ⟨t, rfl⟩
  · rintro ⟨t, rfl⟩; exact ⟨t, rfl⟩
theorem rep_other (c : UInt8) (t : List UInt8) (h : ∀ u, c :: t ≠ 37 :: 50 :: 101 :: u) : rep (c :: t) = c :: rep t := by
  rw [rep]
  intro u e1 e2
  exact h u (by rw [e1, e2])
theorem rep_miss (l : List UInt8) (h : Lib.index l p2e = -1) : rep l = l := by
  induction l with
  | nil => exact rep_nil
  | cons b l ih =>
    have hg := Lib.index_ge l p2e
    unfold Lib.index at h
    split at h
    · cases h
    · rename_i hp
      have h1 : Lib.index l p2e = -1 := by
        split at h
        · rename_i e; exact beq_iff_eq.1 e
        · omega
      rw [rep_other b l (fun u e => hp ((pre_iff _).2 ⟨u, e⟩)), ih h1]
theorem rep_hit (l : List UInt8) (i : Nat) (h : Lib.index l p2e = i) : rep l = l.take i ++ [46] ++ rep (l.drop (i + 3)) := by
  induction l generalizing i with
  | nil => unfold Lib.index at h; simp [p2e] at h
  | cons b l ih =>
    have hg := Lib.index_ge l p2e
    unfold Lib.index at h
    split at h
    · rename_i hp
      obtain ⟨t, e⟩ := (pre_iff _).1 hp
      obtain rfl : i = 0 := by omega
      rw [e, rep_pre]
      rfl
    · rename_i hp
      split at h
      · omega
      · obtain ⟨j, rfl⟩ : ∃ j, i = j + 1 := ⟨i - 1, by rename_i e; have : Lib.index l p2e ≠ -1 := fun e' => e (beq_iff_eq.2 e'); omega⟩
        rw [rep_other b l (fun u e => hp ((pre_iff _).2 ⟨u, e⟩)), ih j (by omega)]
        rw [show j + 1 + 3 = (j + 3) + 1 by omega, List.take_succ_cons, List.drop_succ_cons]
        rfl
theorem rep_count (n : Nat) : ∀ (l : List UInt8), l.length < n → Lib.replaceK p2e [46] (Lib.countFrom p2e n l) l = rep l := by
  induction n with
  | zero => intro l h; omega
  | succ n ih =>
    intro l h
    have hg := Lib.index_ge l p2e
    unfold Lib.countFrom
    split
    · rename_i e
      rw [rep_miss l (beq_iff_eq.1 e)]
      rfl
    · rename_i e
      obtain ⟨i, hi⟩ : ∃ i : Nat, Lib.index l p2e = i := ⟨(Lib.index l p2e).toNat, by have : Lib.index l p2e ≠ -1 := fun e' => e (beq_iff_eq.2 e'); omega⟩
      have h2 : (l.drop (i + 3)).length < n := by
        rw [List.length_drop]
        by_cases h0 : l.length = 0
        · obtain rfl : l = [] := List.length_eq_zero_iff.1 h0
          unfold Lib.index at hi
          simp [p2e] at hi
        · omega
      rw [Nat.add_comm 1, Lib.replaceK_hit p2e [46] _ l i hi, hi, rep_hit l i hi, show ((i : Int)).toNat = i from rfl, show p2e.length = 3 from rfl, ih _ h2]
theorem rep_all (l : List UInt8) : Lib.replaceAll l p2e [46] = rep l := by
  unfold Lib.replaceAll Lib.replace
  rw [if_neg (by decide)]
  have : Lib.replaceNum l p2e (-1) = Lib.count l p2e := by
    unfold Lib.replaceNum
    rw [if_pos (by omega)]
  rw [this]
  exact rep_count _ l (Nat.lt_succ_self _)

theorem rep_append (a : List UInt8) (c : UInt8) (b : List UInt8) (h1 : c ≠ 50) (h2 : c ≠ 101) : rep (a ++ c :: b) = rep a ++ rep (c :: b) := by
  have key : ∀ (n : Nat) (a : List UInt8), a.length ≤ n → rep (a ++ c :: b) = rep a ++ rep (c :: b) := by
    intro n
    induction n with
    | zero =>
      intro a h
      obtain rfl : a = [] := List.length_eq_zero_iff.1 (by omega)
      rw [rep_nil]; rfl
    | succ n ih =>
      intro a h
      match a, h with
      | [], _ => rw [rep_nil]; rfl
      | x :: r, h =>
        by_cases hp : ∃ t, x :: r = 37 :: 50 :: 101 :: t
        · obtain ⟨t, e⟩ := hp
          rw [e]
          show rep (37 :: 50 :: 101 :: (t ++ c :: b)) = _
          rw [rep_pre, rep_pre, ih t (by have := congrArg List.length e; simp at this h; omega)]
          rfl
        · have hp' : ∀ u, x :: r ≠ 37 :: 50 :: 101 :: u := fun u e => hp ⟨u, e⟩
          rw [rep_other x r hp']
          show rep (x :: (r ++ c :: b)) = _
          rw [rep_other, ih r (by simpa using h)]
          · rfl
          · intro u e
            match r, e with
            | [], e => simp at e; exact h1 e.2.1
            | [y], e => simp at e; exact h2 e.2.2.1
            | y :: z :: r, e =>
              simp at e
              exact hp' r (by rw [e.1, e.2.1, e.2.2.1])
  exact key _ a (Nat.le_refl _)

theorem rep_empty {l : List UInt8} (h : rep l = []) : l = [] := by
  match l, h with
  | [], _ => rfl
  | x :: r, h =>
    unfold rep at h
    split at h <;> simp at h
    rename_i e
    exact absurd e (by simp)
/-- What is told as a dot and something behind it. -/
theorem rep_dot {l t : List UInt8} (h : rep l = 46 :: t) : (∃ u, l = 46 :: u ∧ rep u = t) ∨ ∃ u, l = 37 :: 50 :: 101 :: u ∧ rep u = t := by
  match l, h with
  | [], h => rw [rep_nil] at h; cases h
  | x :: r, h =>
    by_cases hp : ∃ t, x :: r = 37 :: 50 :: 101 :: t
    · obtain ⟨u, e⟩ := hp
      rw [e, rep_pre] at h
      exact .inr ⟨u, e, by simpa using h⟩
    · rw [rep_other x r (fun u e => hp ⟨u, e⟩)] at h
      simp at h
      exact .inl ⟨r, by rw [h.1], h.2⟩

/-! ### Splitting at slashes -/
def split : List UInt8 → List (List UInt8)
  | [] => [[]]
  | c :: r => if c = 47 then [] :: split r else match split r with
    | [] => [[c]]
    | h :: t => (c :: h) :: t
theorem split_ne (l : List UInt8) : split l ≠ [] := by
  cases l with
  | nil => simp [split]
  | cons c r => unfold split; split <;> (try split) <;> simp
theorem split_none (l : List UInt8) (h : (47 : UInt8) ∉ l) : split l = [l] := by
  induction l with
  | nil => rfl
  | cons c r ih =>
    simp only [List.mem_cons, not_or] at h
    unfold split
    rw [if_neg (fun e => h.1 e.symm), ih h.2]
theorem split_cons (a r : List UInt8) (h : (47 : UInt8) ∉ a) : split (a ++ 47 :: r) = a :: split r := by
  induction a with
  | nil => simp [split]
  | cons c a ih =>
    simp only [List.mem_cons, not_or] at h
    rw [List.cons_append]
    conv => lhs; unfold split
    rw [if_neg (fun e => h.1 e.symm), ih h.2]
theorem first_slash (l : List UInt8) : (47 : UInt8) ∉ l ∨ ∃ a r, l = a ++ 47 :: r ∧ (47 : UInt8) ∉ a := by
  by_cases h : (47 : UInt8) ∈ l
  · exact .inr (List.eq_append_cons_of_mem h)
  · exact .inl h
theorem split_all (p : UInt8 → Bool) (l : List UInt8) : ∀ (_ : l.all p = true), ∀ t ∈ split l, (47 : UInt8) ∉ t ∧ t.all p = true := by
  have key : ∀ (n : Nat) (l : List UInt8), l.length ≤ n → l.all p = true → ∀ t ∈ split l, (47 : UInt8) ∉ t ∧ t.all p = true := by
    intro n
    induction n with
    | zero =>
      intro l h _ t ht
      obtain rfl : l = [] := List.length_eq_zero_iff.1 (by omega)
      simp [split] at ht
      subst ht
      simp
    | succ n ih =>
      intro l h hp t ht
      rcases first_slash l with h47 | ⟨a, r, rfl, ha⟩
      · rw [split_none l h47] at ht
        simp at ht
        subst ht
        exact ⟨h47, hp⟩
      · rw [split_cons a r ha] at ht
        rw [List.all_append, Bool.and_eq_true, List.all_cons, Bool.and_eq_true] at hp
        rcases List.mem_cons.1 ht with rfl | ht
        · exact ⟨ha, hp.1⟩
        · exact ih r (by simp at h; omega) hp.2.2 t ht
  exact key _ l (Nat.le_refl _)
theorem split_len (l : List UInt8) : (split l).length ≤ l.length + 1 := by
  induction l with
  | nil => simp [split]
  | cons c r ih =>
    unfold split
    split
    · simp; omega
    · split
      · simp
      · rename_i h t e
        rw [e] at ih
        simp at ih ⊢
        omega
theorem split_sum (l : List UInt8) : ∀ t ∈ split l, t.length ≤ l.length := by
  induction l with
  | nil => intro t ht; simp [split] at ht; subst ht; simp
  | cons c r ih =>
    intro t ht
    unfold split at ht
    split at ht
    · rcases List.mem_cons.1 ht with rfl | ht
      · simp
      · have := ih t ht; simp; omega
    · split at ht
      · simp at ht; subst ht; simp
      · rename_i h u e
        rw [e] at ih
        rcases List.mem_cons.1 ht with rfl | ht
        · have := ih h (by simp); simp; omega
        · have := ih t (by simp [ht]); simp; omega

/-- Without one slash that it begins with. -/
def strip : List UInt8 → List UInt8
  | 47 :: r => r
  | l => l
theorem strip_slash (r : List UInt8) : strip (47 :: r) = r := rfl
theorem strip_other (c : UInt8) (r : List UInt8) (h : c ≠ 47) : strip (c :: r) = c :: r := by
  unfold strip
  split
  · rename_i e; simp at e; exact absurd e.1 h
  · rfl
theorem strip_len (l : List UInt8) : (strip l).length ≤ l.length := by
  unfold strip; split <;> simp
theorem strip_prefix (l : List UInt8) : Lib.trimPrefix l [47] = strip l := by
  unfold Lib.trimPrefix Lib.hasPrefix
  match l with
  | [] => rfl
  | c :: r =>
    by_cases h : c = 47
    · subst h; simp [strip_slash, List.isPrefixOf]
    · rw [strip_other c r h, if_neg]
      simp [List.isPrefixOf]
      exact fun e => h e.symm

/-- Each with a slash ahead. -/
def show1 : List (List UInt8) → List UInt8
  | [] => []
  | s :: r => 47 :: s ++ show1 r
theorem show_snoc (l : List (List UInt8)) (s : List UInt8) : show1 (l ++ [s]) = show1 l ++ 47 :: s := by
  induction l with
  | nil => simp [show1]
  | cons a r ih => rw [List.cons_append, show1, ih, show1]; simp
theorem split_show (l : List (List UInt8)) (h : ∀ t ∈ l, (47 : UInt8) ∉ t) (a : List UInt8) (ha : (47 : UInt8) ∉ a) : split (a ++ show1 l) = a :: l := by
  induction l generalizing a with
  | nil => rw [show1, List.append_nil, split_none a ha]
  | cons s r ih =>
    rw [show1, List.cons_append, split_cons a _ ha, ih (fun t ht => h t (by simp [ht])) s (h s (by simp))]
theorem show_all (p : UInt8 → Bool) (h47 : p 47 = true) (l : List (List UInt8)) (h : ∀ t ∈ l, t.all p = true) : (show1 l).all p = true := by
  induction l with
  | nil => rfl
  | cons s r ih => simp only [show1, List.cons_append, List.all_cons, List.all_append, h47, h s (by simp), ih (fun t ht => h t (by simp [ht])), Bool.and_self]


/-! ### Dots -/
abbrev T := List UInt8
def low (l : T) : T := Ascii.lower l
theorem low_append (a b : T) : low (a ++ b) = low a ++ low b := by simp [low, Ascii.lower]
theorem low_cons (c : UInt8) (r : T) : low (c :: r) = Ascii.lowB c :: low r := rfl
/-- How many dots a segment is: none, one or two. -/
def dotsN (l : T) : Nat := if rep (low l) = [46] then 1 else if rep (low l) = [46, 46] then 2 else 0
theorem dots_le (l : T) : dotsN l ≤ 2 := by unfold dotsN; split <;> (try split) <;> omega
theorem dots_cases (l : T) : (dotsN l = 1 ∧ rep (low l) = [46]) ∨ (dotsN l = 2 ∧ rep (low l) = [46, 46]) ∨ (dotsN l = 0 ∧ rep (low l) ≠ [46] ∧ rep (low l) ≠ [46, 46]) := by
  unfold dotsN
  by_cases h : rep (low l) = [46]
  · exact .inl ⟨by rw [if_pos h], h⟩
  · by_cases h2 : rep (low l) = [46, 46]
    · exact .inr (.inl ⟨by rw [if_neg h, if_pos h2], h2⟩)
    · exact .inr (.inr ⟨by rw [if_neg h, if_neg h2], h, h2⟩)
theorem low46 : Ascii.lowB 46 = 46 := by decide +kernel
theorem low37 : Ascii.lowB 37 = 37 := by decide +kernel
theorem rep_low_dot (l : T) : rep (low (l ++ [46])) = rep (low l) ++ [46] := by
  rw [low_append, low_cons, low46]
  show rep (low l ++ [46]) = _
  rw [rep_append _ 46 [] (by decide) (by decide)]
  rfl
theorem rep_low_2e (l : T) : rep (low (l ++ [37, 50, 69])) = rep (low l) ++ [46] := by
  rw [low_append, show low [37, 50, 69] = [37, 50, 101] by decide +kernel, rep_append _ 37 [50, 101] (by decide) (by decide)]
  rfl
theorem dots_more (l : T) (h : l = [] ∨ dotsN l = 1) : dotsN (l ++ [46]) = dotsN l + 1 ∧ dotsN (l ++ [37, 50, 69]) = dotsN l + 1 := by
  rcases h with rfl | h
  · decide +kernel
  · have h1 : rep (low l) = [46] := by rcases dots_cases l with ⟨_, e⟩ | ⟨e, _⟩ | ⟨e, _⟩ <;> first | exact e | omega
    rw [h]
    unfold dotsN
    rw [rep_low_dot, rep_low_2e, h1]
    decide
theorem dots_third (l : T) (h : dotsN l = 2) : dotsN (l ++ [46]) = 0 := by
  have h1 : rep (low l) = [46, 46] := by rcases dots_cases l with ⟨e, _⟩ | ⟨_, e⟩ | ⟨e, _⟩ <;> first | exact e | omega
  unfold dotsN
  rw [rep_low_dot, h1]
  decide
/-- What ends behind dots is a dot, or an e. -/
theorem rep_last {l : T} (c : UInt8) (h : rep (l ++ [c]) = [46] ∨ rep (l ++ [c]) = [46, 46]) : c = 46 ∨ c = 101 := by
  have one : ∀ m : T, rep m = [] → m = [] := fun m => rep_empty
  have last1 : ∀ (m : T), rep m = [46] → m = [46] ∨ m = [37, 50, 101] := by
    intro m hm
    rcases rep_dot hm with ⟨u, rfl, hu⟩ | ⟨u, rfl, hu⟩
    · left; rw [one u hu]
    · right; rw [one u hu]
  have all : ∀ m : T, (rep m = [46] ∨ rep m = [46, 46]) → m = [46] ∨ m = [37, 50, 101] ∨ m = [46, 46] ∨ m = [46, 37, 50, 101] ∨ m = [37, 50, 101, 46] ∨ m = [37, 50, 101, 37, 50, 101] := by
    rintro m (hm | hm)
    · rcases last1 m hm with h | h <;> simp [h]
    · rcases rep_dot hm with ⟨u, rfl, hu⟩ | ⟨u, rfl, hu⟩ <;> rcases last1 u hu with h | h <;> simp [h]
  have hl : (l ++ [c]).getLast? = some c := by simp
  rcases all _ h with e | e | e | e | e | e <;> (rw [e] at hl; simp at hl; simp [← hl])
theorem low_is : ∀ x : Fin 256, (Ascii.lowB (UInt8.ofNat x.val) = 46 → UInt8.ofNat x.val = 46) ∧ (Ascii.lowB (UInt8.ofNat x.val) = 101 → UInt8.ofNat x.val = 101 ∨ UInt8.ofNat x.val = 69) ∧ (Ascii.lowB (UInt8.ofNat x.val) = 47 → UInt8.ofNat x.val = 47) := by decide +kernel
theorem dots_other (l : T) (c : UInt8) (h1 : c ≠ 46) (h2 : c ≠ 101) (h3 : c ≠ 69) : dotsN (l ++ [c]) = 0 := by
  have key : ¬ (rep (low (l ++ [c])) = [46] ∨ rep (low (l ++ [c])) = [46, 46]) := by
    intro h
    rw [low_append, low_cons] at h
    obtain ⟨k1, k2, _⟩ := Pct.all256 (p := fun x => (Ascii.lowB x = 46 → x = 46) ∧ (Ascii.lowB x = 101 → x = 101 ∨ x = 69) ∧ (Ascii.lowB x = 47 → x = 47)) low_is c
    rcases rep_last (Ascii.lowB c) h with h | h
    · exact h1 (k1 h)
    · rcases k2 h with h | h
      · exact h2 h
      · exact h3 h
  unfold dotsN
  rw [if_neg (fun h => key (.inl h)), if_neg (fun h => key (.inr h))]

/-! ### What is encoded -/
def enc (l : T) : T := Pct.encode 3 l
theorem enc_append (a b : T) : enc (a ++ b) = enc a ++ enc b := Pct.encode_append 3 a b
theorem free47 : Pct.inB 3 47 = false := by decide +kernel
theorem hexC47 : ∀ n : Fin 16, Pct.hexC n.val ≠ 47 := by decide +kernel
theorem enc_no (l : T) (h : (47 : UInt8) ∉ l) : (47 : UInt8) ∉ enc l := by
  induction l with
  | nil => simp [enc, Pct.encode_nil]
  | cons a r ih =>
    simp only [List.mem_cons, not_or] at h
    unfold enc at ih ⊢
    rw [Pct.encode_cons]
    cases e : Pct.inB 3 a
    · rw [Pct.enc1_out e]
      simp only [List.cons_append, List.nil_append, List.mem_cons, not_or]
      exact ⟨h.1, ih h.2⟩
    · rw [Pct.enc1_in e]
      simp only [List.cons_append, List.nil_append, List.mem_cons, not_or]
      exact ⟨by decide, fun e => hexC47 ⟨_, (Pct.div16 a).1⟩ e.symm, fun e => hexC47 ⟨_, (Pct.div16 a).2⟩ e.symm, ih h.2⟩
theorem enc_slash (r : T) : enc (47 :: r) = 47 :: enc r := by unfold enc; rw [Pct.encode_cons, Pct.enc1_out free47]; rfl
theorem enc_ready (l : T) : Pct.readyB 3 (enc l) = true := Pct.ready_encode 3 l
theorem enc_same (l : T) (h : Pct.readyB 3 l = true) : enc l = l := Pct.encode_ready 3 l h
theorem strip_enc (l : T) : enc (strip l) = strip (enc l) := by
  match l with
  | [] => rfl
  | c :: r =>
    by_cases h : c = 47
    · subst h; rw [strip_slash, enc_slash, strip_slash]
    · rw [strip_other c r h]
      have : (47 : UInt8) ∉ enc [c] := enc_no [c] (by simp; exact fun e => h e.symm)
      unfold enc at this ⊢
      rw [Pct.encode_cons] at this ⊢
      rw [Pct.encode_nil, List.append_nil] at this
      cases e : Pct.inB 3 c
      · rw [Pct.enc1_out e]
        exact (strip_other c _ h).symm
      · rw [Pct.enc1_in e]
        exact (strip_other 37 _ (by decide)).symm
/-- Each percent sign is followed by 2e. -/
def tame : T → Prop
  | [] => True
  | c :: r => (c = 37 → ∃ v, r = 50 :: 101 :: v) ∧ tame r
theorem hexC_dot : ∀ a b : Fin 16, Ascii.lowB (Pct.hexC a.val) = 50 → Ascii.lowB (Pct.hexC b.val) = 101 → a.val * 16 + b.val = 46 := by decide +kernel
theorem in46 : Pct.inB 3 46 = false := by decide +kernel
theorem enc_tame (l t : T) (h : low (enc l) = t) (ht : tame t) : Pct.readyB 3 l = true := by
  induction l generalizing t with
  | nil => rfl
  | cons a r ih =>
    rw [Pct.ready_cons]
    unfold enc at h ih
    rw [Pct.encode_cons] at h
    cases e : Pct.inB 3 a
    · rw [Pct.enc1_out e] at h
      cases t with
      | nil => simp [low, Ascii.lower] at h
      | cons b t =>
        rw [ih t (by simpa [low, Ascii.lower] using (List.cons.inj h).2) ht.2]
        rfl
    · exfalso
      rw [Pct.enc1_in e] at h
      cases t with
      | nil => simp [low, Ascii.lower] at h
      | cons b t =>
        have h1 : Ascii.lowB 37 = b := (List.cons.inj h).1
        rw [low37] at h1
        obtain ⟨v, rfl⟩ := ht.1 h1.symm
        have h2 := (List.cons.inj h).2
        have h3 : Ascii.lowB (Pct.hexC (a.toNat / 16)) = 50 := (List.cons.inj h2).1
        have h4 : Ascii.lowB (Pct.hexC (a.toNat % 16)) = 101 := (List.cons.inj (List.cons.inj h2).2).1
        have h5 := hexC_dot ⟨_, (Pct.div16 a).1⟩ ⟨_, (Pct.div16 a).2⟩ h3 h4
        simp only at h5
        have h6 : a = 46 := by rw [← UInt8.toNat_inj]; show a.toNat = 46; omega
        rw [h6, in46] at e
        cases e
theorem rep_forms {m : T} (h : rep m = [46] ∨ rep m = [46, 46]) : tame m := by
  have one : ∀ m : T, rep m = [] → tame m := fun m hm => by rw [rep_empty hm]; trivial
  have step : ∀ (m t : T), rep m = 46 :: t → (∀ u, rep u = t → tame u) → tame m := by
    intro m t hm ht
    rcases rep_dot hm with ⟨u, rfl, hu⟩ | ⟨u, rfl, hu⟩
    · exact ⟨fun e => absurd e (by decide), ht u hu⟩
    · exact ⟨fun _ => ⟨u, rfl⟩, fun e => absurd e (by decide), fun e => absurd e (by decide), ht u hu⟩
  rcases h with h | h
  · exact step m [] h one
  · exact step m [46] h (fun u hu => step u [] hu one)
/-- What is encoded are no dots, if the text is none. -/
theorem dots_enc (l : T) (h : dotsN l = 0) : dotsN (enc l) = 0 := by
  have key : ¬ (rep (low (enc l)) = [46] ∨ rep (low (enc l)) = [46, 46]) := by
    intro h2
    have := enc_same l (enc_tame l _ rfl (rep_forms h2))
    rw [this] at h2
    rcases dots_cases l with ⟨e, _⟩ | ⟨e, _⟩ | ⟨_, e1, e2⟩
    · omega
    · omega
    · rcases h2 with h2 | h2
      · exact e1 h2
      · exact e2 h2
  unfold dotsN
  rw [if_neg (fun h => key (.inl h)), if_neg (fun h => key (.inr h))]

/-! ### Without dots -/
/-- One segment more, or one less; is it the last one? -/
def step (out : List T) (last : Bool) (s : T) : List T :=
  if dotsN s = 0 then out ++ [s] else if dotsN s = 2 then (if last then out.dropLast ++ [[]] else out.dropLast) else (if last then out ++ [[]] else out)
theorem step_none (out : List T) (last : Bool) (s : T) (h : dotsN s = 0) : step out last s = out ++ [s] := by unfold step; rw [if_pos h]
theorem step_two (out : List T) (last : Bool) (s : T) (h : dotsN s = 2) : step out last s = if last then out.dropLast ++ [[]] else out.dropLast := by unfold step; rw [if_neg (by omega), if_pos h]
theorem step_one (out : List T) (last : Bool) (s : T) (h : dotsN s = 1) : step out last s = if last then out ++ [[]] else out := by unfold step; rw [if_neg (by omega), if_neg (by omega)]
theorem step_len (out : List T) (last : Bool) (s : T) : (step out last s).length ≤ out.length + 1 := by
  unfold step
  split
  · simp
  · split <;> (split <;> simp <;> omega)
theorem step_last (out : List T) (s : T) : step out true s ≠ [] := by
  unfold step
  split
  · simp
  · split <;> simp
def fold (out : List T) (l : List T) : List T := l.foldl (fun o s => step o false s) out
def norm : List T → List T → List T
  | out, [] => out
  | out, [s] => step out true s
  | out, s :: r => norm (step out false s) r
theorem norm_nil (out : List T) : norm out [] = out := by simp [norm]
theorem norm_one (out : List T) (s : T) : norm out [s] = step out true s := by simp [norm]
theorem norm_cons (out : List T) (s : T) (r : List T) (h : r ≠ []) : norm out (s :: r) = norm (step out false s) r := by
  cases r with
  | nil => exact absurd rfl h
  | cons a r => simp [norm]
theorem norm_append (out a b : List T) (h : b ≠ []) : norm out (a ++ b) = norm (fold out a) b := by
  induction a generalizing out with
  | nil => rfl
  | cons s r ih =>
    rw [List.cons_append, norm_cons out s _ (by simp [h]), ih]
    rfl
theorem norm_ne (out : List T) (l : List T) (h : l ≠ []) : norm out l ≠ [] := by
  induction l generalizing out with
  | nil => exact absurd rfl h
  | cons s r ih =>
    by_cases hr : r = []
    · subst hr; rw [norm_one]; exact step_last _ _
    · rw [norm_cons out s r hr]; exact ih _ hr
theorem norm_len (out : List T) (l : List T) : (norm out l).length ≤ out.length + l.length := by
  induction l generalizing out with
  | nil => rw [norm_nil]; simp
  | cons s r ih =>
    by_cases hr : r = []
    · subst hr; rw [norm_one]; have := step_len out true s; simp; omega
    · rw [norm_cons out s r hr]
      have := ih (step out false s)
      have := step_len out false s
      simp
      omega
theorem step_mem (out : List T) (last : Bool) (s : T) (p : T → Prop) (h0 : p []) (ho : ∀ t ∈ out, p t) (hs : dotsN s = 0 → p s) : ∀ t ∈ step out last s, p t := by
  have hd : ∀ t ∈ out.dropLast, p t := fun t ht => ho t (List.dropLast_subset _ ht)
  intro t ht
  unfold step at ht
  split at ht
  · rename_i h
    rcases List.mem_append.1 ht with ht | ht
    · exact ho t ht
    · simp at ht; subst ht; exact hs h
  · split at ht
    · split at ht
      · rcases List.mem_append.1 ht with ht | ht
        · exact hd t ht
        · simp at ht; subst ht; exact h0
      · exact hd t ht
    · split at ht
      · rcases List.mem_append.1 ht with ht | ht
        · exact ho t ht
        · simp at ht; subst ht; exact h0
      · exact ho t ht
theorem norm_mem (out : List T) (l : List T) (p : T → Prop) (h0 : p []) (ho : ∀ t ∈ out, p t) (hs : ∀ t ∈ l, dotsN t = 0 → p t) : ∀ t ∈ norm out l, p t := by
  induction l generalizing out with
  | nil => rw [norm_nil]; exact ho
  | cons s r ih =>
    by_cases hr : r = []
    · subst hr; rw [norm_one]; exact step_mem out true s p h0 ho (hs s (by simp))
    · rw [norm_cons out s r hr]
      exact ih _ (step_mem out false s p h0 ho (hs s (by simp))) (fun t ht => hs t (by simp [ht]))
theorem dots_nil : dotsN [] = 0 := by decide +kernel
/-- No dots stay. -/
theorem norm_dots (l : List T) : ∀ t ∈ norm [] l, dotsN t = 0 := norm_mem [] l _ dots_nil (by simp) (fun _ _ h => h)
theorem fold_plain (out l : List T) (h : ∀ t ∈ l, dotsN t = 0) : fold out l = out ++ l := by
  induction l generalizing out with
  | nil => simp [fold]
  | cons s r ih =>
    show fold (step out false s) r = _
    rw [step_none out false s (h s (by simp)), ih _ (fun t ht => h t (by simp [ht]))]
    simp
theorem norm_plain (l : List T) (h : ∀ t ∈ l, dotsN t = 0) (out : List T) : norm out l = out ++ l := by
  induction l generalizing out with
  | nil => rw [norm_nil]; simp
  | cons s r ih =>
    by_cases hr : r = []
    · subst hr; rw [norm_one, step_none out true s (h s (by simp))]
    · rw [norm_cons out s r hr, step_none out false s (h s (by simp)), ih (fun t ht => h t (by simp [ht]))]
      simp
theorem norm_again (l : List T) : norm [] (norm [] l) = norm [] l := norm_plain _ (norm_dots l) []
def dd : T := [46, 46]
theorem dots_dd : dotsN dd = 2 := by decide +kernel
theorem fold_up (out : List T) (n : Nat) : fold out (List.replicate n dd) = out.take (out.length - n) := by
  induction n generalizing out with
  | zero => simp [fold]
  | succ n ih =>
    show fold (step out false dd) (List.replicate n dd) = _
    rw [step_two out false dd dots_dd, ih]
    simp only [Bool.false_eq_true, if_false]
    rw [List.dropLast_eq_take, List.take_take, List.length_take]
    congr 1
    omega
theorem fold_append (out a b : List T) : fold out (a ++ b) = fold (fold out a) b := by simp [fold]
/-- As often up as there are segments, and more. -/
theorem norm_top (base : List T) (n : Nat) (h : ∀ t ∈ base, dotsN t = 0) (hn : base.length ≤ n) (l : List T) (hl : l ≠ []) : norm [] (base.dropLast ++ (List.replicate n dd ++ l)) = norm [] (List.replicate n dd ++ l) := by
  rw [← List.append_assoc, norm_append _ _ _ hl, norm_append _ _ _ hl, fold_append, fold_plain [] _ (fun t ht => h t (List.dropLast_subset _ ht)), fold_up, fold_up]
  have e1 : (([] : List T) ++ base.dropLast).take ((([] : List T) ++ base.dropLast).length - n) = [] := by
    rw [show (([] : List T) ++ base.dropLast).length - n = 0 by simp; omega]; rfl
  rw [e1, show (([] : List T).take (([] : List T).length - n)) = [] from List.take_nil]
theorem norm_up (a : T) (h : dotsN a = 0) (l : List T) (hl : l ≠ []) : norm [] (a :: dd :: l) = norm [] l := by
  rw [norm_cons _ _ _ (by simp), norm_cons _ _ _ hl, step_none _ _ _ h, step_two _ _ _ dots_dd]
  rfl
theorem norm_dot (d : T) (h : dotsN d = 1) (l : List T) (hl : l ≠ []) : norm [] (d :: l) = norm [] l := by
  rw [norm_cons _ _ _ hl, step_one _ _ _ h]
  rfl
theorem norm_two (d : T) (h : dotsN d = 2) (l : List T) (hl : l ≠ []) : norm [] (d :: l) = norm [] l := by
  rw [norm_cons _ _ _ hl, step_two _ _ _ h]
  rfl

/-! ### Paths -/
def segs (s : T) : List T := split (enc (strip s))
def merge (base : List T) (s : T) : List T := norm [] (base.dropLast ++ segs s)
def parse (s : T) : List T := norm [] (segs s)
theorem segs_ne (s : T) : segs s ≠ [] := split_ne _
def okT (t : T) : Bool := Pct.readyB 3 t && (!t.contains 47 && dotsN t == 0)
theorem okT_iff (t : T) : okT t = true ↔ Pct.readyB 3 t = true ∧ (47 : UInt8) ∉ t ∧ dotsN t = 0 := by
  unfold okT
  simp only [Bool.and_eq_true, Bool.not_eq_true', beq_iff_eq, List.contains_eq_mem, decide_eq_false_iff_not]
def mayP (l : List T) : Bool := l.all okT && !l.isEmpty
theorem mayP_iff (l : List T) : mayP l = true ↔ (∀ t ∈ l, okT t = true) ∧ l ≠ [] := by
  unfold mayP
  rw [Bool.and_eq_true, List.all_eq_true]
  simp
theorem okT_nil : okT [] = true := by decide +kernel
theorem segs_ok (s : T) : ∀ t ∈ segs s, Pct.readyB 3 t = true ∧ (47 : UInt8) ∉ t := by
  intro t ht
  have := split_all (fun c => !Pct.inB 3 c) (enc (strip s)) (enc_ready _) t ht
  exact ⟨this.2, this.1⟩
theorem norm_okT (l : List T) (h : ∀ t ∈ l, Pct.readyB 3 t = true ∧ (47 : UInt8) ∉ t) : ∀ t ∈ norm [] l, okT t = true :=
  norm_mem [] l _ okT_nil (by simp) (fun t ht hd => (okT_iff t).2 ⟨(h t ht).1, (h t ht).2, hd⟩)
theorem parse_may (s : T) : mayP (parse s) = true := (mayP_iff _).2 ⟨norm_okT _ (segs_ok s), norm_ne _ _ (segs_ne s)⟩
theorem merge_may (base : List T) (s : T) (h : mayP base = true) : mayP (merge base s) = true := by
  refine (mayP_iff _).2 ⟨norm_okT _ (fun t ht => ?_), norm_ne _ _ (by simp [segs_ne])⟩
  rcases List.mem_append.1 ht with ht | ht
  · have := (okT_iff t).1 (((mayP_iff base).1 h).1 t (List.dropLast_subset _ ht))
    exact ⟨this.1, this.2.1⟩
  · exact segs_ok s t ht
/-- What may be is shown, and parsed again. -/
theorem parse_show (l : List T) (h : mayP l = true) : parse (show1 l) = l := by
  obtain ⟨ha, hn⟩ := (mayP_iff l).1 h
  have h1 : ∀ t ∈ l, Pct.readyB 3 t = true := fun t ht => ((okT_iff t).1 (ha t ht)).1
  have h2 : ∀ t ∈ l, (47 : UInt8) ∉ t := fun t ht => ((okT_iff t).1 (ha t ht)).2.1
  have h3 : ∀ t ∈ l, dotsN t = 0 := fun t ht => ((okT_iff t).1 (ha t ht)).2.2
  unfold parse segs
  rw [strip_enc, enc_same _ (show_all (fun c => !Pct.inB 3 c) (by rw [free47]; rfl) l h1)]
  cases l with
  | nil => exact absurd rfl hn
  | cons a r =>
    rw [show1, show strip (47 :: a ++ show1 r) = a ++ show1 r from rfl, split_show r (fun t ht => h2 t (by simp [ht])) a (h2 a (by simp)), norm_plain _ h3]
    rfl
theorem merge_nil (s : T) : merge [] s = parse s := rfl
theorem segs_slash (s : T) : segs (47 :: s) = split (enc s) := by unfold segs; rw [strip_slash]
theorem split_enc_cons (a r : T) (h : (47 : UInt8) ∉ a) : split (enc (a ++ 47 :: r)) = enc a :: split (enc r) := by
  rw [enc_append, enc_slash, split_cons _ _ (enc_no a h)]
/-- As often two dots and a slash. -/
def ups : Nat → T
  | 0 => []
  | n + 1 => ups n ++ [46, 46, 47]
theorem ups_cons (n : Nat) : ups (n + 1) = [46, 46, 47] ++ ups n := by
  induction n with
  | zero => rfl
  | succ n ih =>
    show ups (n + 1) ++ [46, 46, 47] = [46, 46, 47] ++ (ups n ++ [46, 46, 47])
    rw [ih, List.append_assoc]
theorem ups_len (n : Nat) : (ups n).length = 3 * n := by
  induction n with
  | zero => rfl
  | succ n ih => show (ups n ++ [46, 46, 47]).length = _; rw [List.length_append, ih]; simp; omega
theorem enc_dd : enc dd = dd := by decide +kernel
theorem split_ups (n : Nat) (s : T) : split (enc (ups n ++ s)) = List.replicate n dd ++ split (enc s) := by
  induction n with
  | zero => rfl
  | succ n ih =>
    rw [ups_cons, show [46, 46, 47] ++ ups n ++ s = dd ++ 47 :: (ups n ++ s) by simp [dd], split_enc_cons dd _ (by decide), ih, enc_dd]
    rfl
theorem merge_top (base : List T) (s : T) (h : mayP base = true) : merge base (ups base.length ++ s) = parse (ups base.length ++ s) := by
  obtain ⟨ha, hn⟩ := (mayP_iff base).1 h
  obtain ⟨n, hl⟩ : ∃ n, base.length = n + 1 := ⟨base.length - 1, by have := List.length_pos_iff.2 hn; omega⟩
  have hs : segs (ups base.length ++ s) = List.replicate base.length dd ++ split (enc s) := by
    unfold segs
    rw [hl, ups_cons, show strip ([46, 46, 47] ++ ups n ++ s) = [46, 46, 47] ++ ups n ++ s from rfl, ← ups_cons, split_ups]
  unfold merge parse
  rw [hs]
  exact norm_top base base.length (fun t ht => ((okT_iff t).1 (ha t ht)).2.2) (Nat.le_refl _) _ (split_ne _)
theorem parse_two (a b : T) (ha : (47 : UInt8) ∉ a) (hb : (47 : UInt8) ∉ b) (h1 : dotsN a = 0) (h2 : dotsN b = 0) : parse (47 :: (a ++ 47 :: b)) = [enc a, enc b] := by
  unfold parse
  rw [segs_slash, split_enc_cons a b ha, split_none _ (enc_no b hb)]
  exact norm_plain _ (by simp [dots_enc a h1, dots_enc b h2]) []
theorem parse_ne (s : T) : parse s ≠ [] := norm_ne _ _ (segs_ne s)
theorem up_one (a s : T) (ha : (47 : UInt8) ∉ a) (h : dotsN a = 0) : parse (47 :: (a ++ 47 :: 46 :: 46 :: 47 :: s)) = parse (47 :: s) := by
  unfold parse
  rw [segs_slash, segs_slash, split_enc_cons a _ ha, show (46 :: 46 :: 47 :: s : T) = dd ++ 47 :: s from rfl, split_enc_cons dd _ (by decide), enc_dd]
  exact norm_up _ (dots_enc a h) _ (split_ne _)
theorem up_two (s : T) : parse (47 :: 46 :: 47 :: s) = parse (47 :: s) := by
  unfold parse
  rw [segs_slash, segs_slash, show (46 :: 47 :: s : T) = [46] ++ 47 :: s from rfl, split_enc_cons _ _ (by decide)]
  exact norm_dot _ (by decide +kernel) _ (split_ne _)
theorem up_three (s : T) : parse (47 :: 46 :: 46 :: 47 :: 37 :: 50 :: 101 :: 37 :: 50 :: 69 :: 47 :: s) = parse (47 :: s) := by
  unfold parse
  rw [segs_slash, segs_slash, show (46 :: 46 :: 47 :: 37 :: 50 :: 101 :: 37 :: 50 :: 69 :: 47 :: s : T) = dd ++ 47 :: ([37, 50, 101, 37, 50, 69] ++ 47 :: s) from rfl, split_enc_cons dd _ (by decide), split_enc_cons _ _ (by decide), enc_dd,
    norm_two dd dots_dd _ (by simp)]
  exact norm_two _ (by decide +kernel) _ (split_ne _)

end Go.Proofs.YtbofkmaajhfkeaaDoor.Path
