/-
  Paths, as lists of bytes: dots, segments, what stands between slashes, encoded. Nothing of the program.
  A slice of texts in memory; the walks of the small functions of package path (Dots, ahead) and of the law's Few and the document's Same.
  What is put behind (Norm's closure): the box's slice with one text more; nothing else turns.
  The iterator each(l): every segment, in order, and whether it is the last one, for every loop body.
  Norm: segments without dots: a range over each(l), the closure that puts behind, the slice that is cut back.
  The iterator parts(s): what stands ahead of, between, and behind the slashes, in order; a clone of a slice of texts.
  Merge and Parse.
  Show (a builder) and May.
  The chapter's examples answer as the chapter says (awake); what each law's text takes of the calls.
-/
import Derived.Lib.Replace
import Derived.Lib.ReplaceLaws
import Derived.Lib.IndexMore
import Derived.WalkKit
import Derived.WalkSpells
import Derived.WalkLawsBesides
import Derived.Lib.Hide
import Derived.Lib.Walk
import Derived.Shelf.Abstract
import Derived.Deep.QuietTactic
import Derived.BigQuiet
import Derived.Deep.AppendLies
import Derived.Deep.RegionLaw
import Derived.RangeFuncNested
import Derived.RangeFuncBox
import Derived.RangeFuncBound
import Derived.RangeFuncCalls
import Derived.RangeFuncLeaves
import Derived.OwnWalkIn
import Derived.TacticsInMore
import Derived.LoopNIn
import Derived.LoopIn
import Derived.Maps.AppendAt
import Derived.Test.YtlkikfdbjpjpaaaGreatDoorAscii
import Derived.Test.YtlkikfdbjpjpaaaGreatDoorPct
import Derived.Test.YtlkikfdbjpjpaaaGreatDoorPaStrs
namespace Go.Proofs.YtlkikfdbjpjpaaaGreatDoor.Path
set_option linter.unusedSimpArgs false
set_option linter.unusedVariables false
set_option maxRecDepth 100000


theorem snocInd {α : Type} {p : List α → Prop} (h0 : p []) (h1 : ∀ l c, p l → p (l ++ [c])) (l : List α) : p l := by
  rw [← l.reverse_reverse]
  induction l.reverse with
  | nil => exact h0
  | cons c r ih => rw [List.reverse_cons]; exact h1 _ _ ih

/-! ### What stands for a dot -/

def p2e : List UInt8 := [37, 50, 101]

def rep : List UInt8 → List UInt8
  | 37 :: 50 :: 101 :: t => 46 :: rep t
  | c :: t => c :: rep t
  | [] => []

theorem rep_nil : rep [] = [] := by simp [rep]

theorem rep_pre (t : List UInt8) : rep (37 :: 50 :: 101 :: t) = 46 :: rep t := by simp [rep]

theorem pre_iff (l : List UInt8) : p2e.isPrefixOf l = true ↔ ∃ t, l = 37 :: 50 :: 101 :: t := by
  rw [List.isPrefixOf_iff_prefix]
  constructor
  · rintro ⟨t, rfl⟩; exact ⟨t, rfl⟩
  · rintro ⟨t, rfl⟩; exact ⟨t, rfl⟩

theorem rep_other (c : UInt8) (t : List UInt8) (h : ∀ u, c :: t ≠ 37 :: 50 :: 101 :: u) : rep (c :: t) = c :: rep t := by
  rw [rep]
  intro u e1 e2
  exact h u (by rw [e1, e2])

theorem rep_miss (l : List UInt8) (h : Lib.index l p2e = -1) : rep l = l := by
  induction l with
  | nil => exact rep_nil
  | cons b l ih =>
    have hg := Lib.index_ge l p2e
    unfold Lib.index at h
    split at h
    · cases h
    · rename_i hp
      have h1 : Lib.index l p2e = -1 := by
        split at h
        · rename_i e; exact beq_iff_eq.1 e
        · omega
      rw [rep_other b l (fun u e => hp ((pre_iff _).2 ⟨u, e⟩)), ih h1]

theorem rep_hit (l : List UInt8) (i : Nat) (h : Lib.index l p2e = i) : rep l = l.take i ++ [46] ++ rep (l.drop (i + 3)) := by
  induction l generalizing i with
  | nil => unfold Lib.index at h; simp [p2e] at h
  | cons b l ih =>
    have hg := Lib.index_ge l p2e
    unfold Lib.index at h
    split at h
    · rename_i hp
      obtain ⟨t, e⟩ := (pre_iff _).1 hp
      obtain rfl : i = 0 := by omega
      rw [e, rep_pre]
      rfl
    · rename_i hp
      split at h
      · omega
      · obtain ⟨j, rfl⟩ : ∃ j, i = j + 1 := ⟨i - 1, by rename_i e; have : Lib.index l p2e ≠ -1 := fun e' => e (beq_iff_eq.2 e'); omega⟩
        rw [rep_other b l (fun u e => hp ((pre_iff _).2 ⟨u, e⟩)), ih j (by omega)]
        rw [show j + 1 + 3 = (j + 3) + 1 by omega, List.take_succ_cons, List.drop_succ_cons]
        rfl

theorem rep_count (n : Nat) : ∀ (l : List UInt8), l.length < n → Lib.replaceK p2e [46] (Lib.countFrom p2e n l) l = rep l := by
  induction n with
  | zero => intro l h; omega
  | succ n ih =>
    intro l h
    have hg := Lib.index_ge l p2e
    unfold Lib.countFrom
    split
    · rename_i e
      rw [rep_miss l (beq_iff_eq.1 e)]
      rfl
    · rename_i e
      obtain ⟨i, hi⟩ : ∃ i : Nat, Lib.index l p2e = i := ⟨(Lib.index l p2e).toNat, by have : Lib.index l p2e ≠ -1 := fun e' => e (beq_iff_eq.2 e'); omega⟩
      have h2 : (l.drop (i + 3)).length < n := by
        rw [List.length_drop]
        by_cases h0 : l.length = 0
        · obtain rfl : l = [] := List.length_eq_zero_iff.1 h0
          unfold Lib.index at hi
          simp [p2e] at hi
        · omega
      rw [Nat.add_comm 1, Lib.replaceK_hit p2e [46] _ l i hi, hi, rep_hit l i hi, show ((i : Int)).toNat = i from rfl, show p2e.length = 3 from rfl, ih _ h2]

theorem rep_all (l : List UInt8) : Lib.replaceAll l p2e [46] = rep l := by
  unfold Lib.replaceAll Lib.replace
  rw [if_neg (by decide)]
  have : Lib.replaceNum l p2e (-1) = Lib.count l p2e := by
    unfold Lib.replaceNum
    rw [if_pos (by omega)]
  rw [this]
  exact rep_count _ l (Nat.lt_succ_self _)

theorem rep_append (a : List UInt8) (c : UInt8) (b : List UInt8) (h1 : c ≠ 50) (h2 : c ≠ 101) : rep (a ++ c :: b) = rep a ++ rep (c :: b) := by
  have key : ∀ (n : Nat) (a : List UInt8), a.length ≤ n → rep (a ++ c :: b) = rep a ++ rep (c :: b) := by
    intro n
    induction n with
    | zero =>
      intro a h
      obtain rfl : a = [] := List.length_eq_zero_iff.1 (by omega)
      rw [rep_nil]; rfl
    | succ n ih =>
      intro a h
      match a, h with
      | [], _ => rw [rep_nil]; rfl
      | x :: r, h =>
        by_cases hp : ∃ t, x :: r = 37 :: 50 :: 101 :: t
        · obtain ⟨t, e⟩ := hp
          rw [e]
          show rep (37 :: 50 :: 101 :: (t ++ c :: b)) = _
          rw [rep_pre, rep_pre, ih t (by have := congrArg List.length e; simp at this h; omega)]
          rfl
        · have hp' : ∀ u, x :: r ≠ 37 :: 50 :: 101 :: u := fun u e => hp ⟨u, e⟩
          rw [rep_other x r hp']
          show rep (x :: (r ++ c :: b)) = _
          rw [rep_other, ih r (by simpa using h)]
          · rfl
          · intro u e
            match r, e with
            | [], e => simp at e; exact h1 e.2.1
            | [y], e => simp at e; exact h2 e.2.2.1
            | y :: z :: r, e =>
              simp at e
              exact hp' r (by rw [e.1, e.2.1, e.2.2.1])
  exact key _ a (Nat.le_refl _)

theorem rep_empty {l : List UInt8} (h : rep l = []) : l = [] := by
  match l, h with
  | [], _ => rfl
  | x :: r, h =>
    unfold rep at h
    split at h <;> simp at h
    rename_i e
    exact absurd e (by simp)

/-- What is told as a dot and something behind it. -/
theorem rep_dot {l t : List UInt8} (h : rep l = 46 :: t) : (∃ u, l = 46 :: u ∧ rep u = t) ∨ ∃ u, l = 37 :: 50 :: 101 :: u ∧ rep u = t := by
  match l, h with
  | [], h => rw [rep_nil] at h; cases h
  | x :: r, h =>
    by_cases hp : ∃ t, x :: r = 37 :: 50 :: 101 :: t
    · obtain ⟨u, e⟩ := hp
      rw [e, rep_pre] at h
      exact .inr ⟨u, e, by simpa using h⟩
    · rw [rep_other x r (fun u e => hp ⟨u, e⟩)] at h
      simp at h
      exact .inl ⟨r, by rw [h.1], h.2⟩

/-! ### Splitting at slashes -/

def split : List UInt8 → List (List UInt8)
  | [] => [[]]
  | c :: r => if c = 47 then [] :: split r else match split r with
    | [] => [[c]]
    | h :: t => (c :: h) :: t

theorem split_ne (l : List UInt8) : split l ≠ [] := by
  cases l with
  | nil => simp [split]
  | cons c r => unfold split; split <;> (try split) <;> simp

theorem split_none (l : List UInt8) (h : (47 : UInt8) ∉ l) : split l = [l] := by
  induction l with
  | nil => rfl
  | cons c r ih =>
    simp only [List.mem_cons, not_or] at h
    unfold split
    rw [if_neg (fun e => h.1 e.symm), ih h.2]

theorem split_cons (a r : List UInt8) (h : (47 : UInt8) ∉ a) : split (a ++ 47 :: r) = a :: split r := by
  induction a with
  | nil => simp [split]
  | cons c a ih =>
    simp only [List.mem_cons, not_or] at h
    rw [List.cons_append]
    conv => lhs; unfold split
    rw [if_neg (fun e => h.1 e.symm), ih h.2]

theorem first_slash (l : List UInt8) : (47 : UInt8) ∉ l ∨ ∃ a r, l = a ++ 47 :: r ∧ (47 : UInt8) ∉ a := by
  by_cases h : (47 : UInt8) ∈ l
  · exact .inr (List.eq_append_cons_of_mem h)
  · exact .inl h

theorem split_all (p : UInt8 → Bool) (l : List UInt8) : ∀ (_ : l.all p = true), ∀ t ∈ split l, (47 : UInt8) ∉ t ∧ t.all p = true := by
  have key : ∀ (n : Nat) (l : List UInt8), l.length ≤ n → l.all p = true → ∀ t ∈ split l, (47 : UInt8) ∉ t ∧ t.all p = true := by
    intro n
    induction n with
    | zero =>
      intro l h _ t ht
      obtain rfl : l = [] := List.length_eq_zero_iff.1 (by omega)
      simp [split] at ht
      subst ht
      simp
    | succ n ih =>
      intro l h hp t ht
      rcases first_slash l with h47 | ⟨a, r, rfl, ha⟩
      · rw [split_none l h47] at ht
        simp at ht
        subst ht
        exact ⟨h47, hp⟩
      · rw [split_cons a r ha] at ht
        rw [List.all_append, Bool.and_eq_true, List.all_cons, Bool.and_eq_true] at hp
        rcases List.mem_cons.1 ht with rfl | ht
        · exact ⟨ha, hp.1⟩
        · exact ih r (by simp at h; omega) hp.2.2 t ht
  exact key _ l (Nat.le_refl _)

theorem split_len (l : List UInt8) : (split l).length ≤ l.length + 1 := by
  induction l with
  | nil => simp [split]
  | cons c r ih =>
    unfold split
    split
    · simp; omega
    · split
      · simp
      · rename_i h t e
        rw [e] at ih
        simp at ih ⊢
        omega

theorem split_sum (l : List UInt8) : ∀ t ∈ split l, t.length ≤ l.length := by
  induction l with
  | nil => intro t ht; simp [split] at ht; subst ht; simp
  | cons c r ih =>
    intro t ht
    unfold split at ht
    split at ht
    · rcases List.mem_cons.1 ht with rfl | ht
      · simp
      · have := ih t ht; simp; omega
    · split at ht
      · simp at ht; subst ht; simp
      · rename_i h u e
        rw [e] at ih
        rcases List.mem_cons.1 ht with rfl | ht
        · have := ih h (by simp); simp; omega
        · have := ih t (by simp [ht]); simp; omega

/-- Without one slash that it begins with. -/
def strip : List UInt8 → List UInt8
  | 47 :: r => r
  | l => l

theorem strip_slash (r : List UInt8) : strip (47 :: r) = r := rfl

theorem strip_other (c : UInt8) (r : List UInt8) (h : c ≠ 47) : strip (c :: r) = c :: r := by
  unfold strip
  split
  · rename_i e; simp at e; exact absurd e.1 h
  · rfl

theorem strip_len (l : List UInt8) : (strip l).length ≤ l.length := by
  unfold strip; split <;> simp

theorem strip_prefix (l : List UInt8) : Lib.trimPrefix l [47] = strip l := by
  unfold Lib.trimPrefix Lib.hasPrefix
  match l with
  | [] => rfl
  | c :: r =>
    by_cases h : c = 47
    · subst h; simp [strip_slash, List.isPrefixOf]
    · rw [strip_other c r h, if_neg]
      simp [List.isPrefixOf]
      exact fun e => h e.symm

/-- Each with a slash ahead. -/
def show1 : List (List UInt8) → List UInt8
  | [] => []
  | s :: r => 47 :: s ++ show1 r

theorem show_snoc (l : List (List UInt8)) (s : List UInt8) : show1 (l ++ [s]) = show1 l ++ 47 :: s := by
  induction l with
  | nil => simp [show1]
  | cons a r ih => rw [List.cons_append, show1, ih, show1]; simp

theorem split_show (l : List (List UInt8)) (h : ∀ t ∈ l, (47 : UInt8) ∉ t) (a : List UInt8) (ha : (47 : UInt8) ∉ a) : split (a ++ show1 l) = a :: l := by
  induction l generalizing a with
  | nil => rw [show1, List.append_nil, split_none a ha]
  | cons s r ih =>
    rw [show1, List.cons_append, split_cons a _ ha, ih (fun t ht => h t (by simp [ht])) s (h s (by simp))]

theorem show_all (p : UInt8 → Bool) (h47 : p 47 = true) (l : List (List UInt8)) (h : ∀ t ∈ l, t.all p = true) : (show1 l).all p = true := by
  induction l with
  | nil => rfl
  | cons s r ih => simp only [show1, List.cons_append, List.all_cons, List.all_append, h47, h s (by simp), ih (fun t ht => h t (by simp [ht])), Bool.and_self]

def low (l : T) : T := Ascii.lower l

theorem low_append (a b : T) : low (a ++ b) = low a ++ low b := by simp [low, Ascii.lower]

theorem low_cons (c : UInt8) (r : T) : low (c :: r) = Ascii.lowB c :: low r := rfl

/-- How many dots a segment is: none, one or two. -/
def dotsN (l : T) : Nat := if rep (low l) = [46] then 1 else if rep (low l) = [46, 46] then 2 else 0

theorem dots_le (l : T) : dotsN l ≤ 2 := by unfold dotsN; split <;> (try split) <;> omega

theorem dots_cases (l : T) : (dotsN l = 1 ∧ rep (low l) = [46]) ∨ (dotsN l = 2 ∧ rep (low l) = [46, 46]) ∨ (dotsN l = 0 ∧ rep (low l) ≠ [46] ∧ rep (low l) ≠ [46, 46]) := by
  unfold dotsN
  by_cases h : rep (low l) = [46]
  · exact .inl ⟨by rw [if_pos h], h⟩
  · by_cases h2 : rep (low l) = [46, 46]
    · exact .inr (.inl ⟨by rw [if_neg h, if_pos h2], h2⟩)
    · exact .inr (.inr ⟨by rw [if_neg h, if_neg h2], h, h2⟩)

theorem low46 : Ascii.lowB 46 = 46 := by decide +kernel

theorem low37 : Ascii.lowB 37 = 37 := by decide +kernel

theorem rep_low_dot (l : T) : rep (low (l ++ [46])) = rep (low l) ++ [46] := by
  rw [low_append, low_cons, low46]
  show rep (low l ++ [46]) = _
  rw [rep_append _ 46 [] (by decide) (by decide)]
  rfl

theorem rep_low_2e (l : T) : rep (low (l ++ [37, 50, 69])) = rep (low l) ++ [46] := by
  rw [low_append, show low [37, 50, 69] = [37, 50, 101] by decide +kernel, rep_append _ 37 [50, 101] (by decide) (by decide)]
  rfl

theorem dots_more (l : T) (h : l = [] ∨ dotsN l = 1) : dotsN (l ++ [46]) = dotsN l + 1 ∧ dotsN (l ++ [37, 50, 69]) = dotsN l + 1 := by
  rcases h with rfl | h
  · decide +kernel
  · have h1 : rep (low l) = [46] := by rcases dots_cases l with ⟨_, e⟩ | ⟨e, _⟩ | ⟨e, _⟩ <;> first | exact e | omega
    rw [h]
    unfold dotsN
    rw [rep_low_dot, rep_low_2e, h1]
    decide

theorem dots_third (l : T) (h : dotsN l = 2) : dotsN (l ++ [46]) = 0 := by
  have h1 : rep (low l) = [46, 46] := by rcases dots_cases l with ⟨e, _⟩ | ⟨_, e⟩ | ⟨e, _⟩ <;> first | exact e | omega
  unfold dotsN
  rw [rep_low_dot, h1]
  decide

/-- What ends behind dots is a dot, or an e. -/
theorem rep_last {l : T} (c : UInt8) (h : rep (l ++ [c]) = [46] ∨ rep (l ++ [c]) = [46, 46]) : c = 46 ∨ c = 101 := by
  have one : ∀ m : T, rep m = [] → m = [] := fun m => rep_empty
  have last1 : ∀ (m : T), rep m = [46] → m = [46] ∨ m = [37, 50, 101] := by
    intro m hm
    rcases rep_dot hm with ⟨u, rfl, hu⟩ | ⟨u, rfl, hu⟩
    · left; rw [one u hu]
    · right; rw [one u hu]
  have all : ∀ m : T, (rep m = [46] ∨ rep m = [46, 46]) → m = [46] ∨ m = [37, 50, 101] ∨ m = [46, 46] ∨ m = [46, 37, 50, 101] ∨ m = [37, 50, 101, 46] ∨ m = [37, 50, 101, 37, 50, 101] := by
    rintro m (hm | hm)
    · rcases last1 m hm with h | h <;> simp [h]
    · rcases rep_dot hm with ⟨u, rfl, hu⟩ | ⟨u, rfl, hu⟩ <;> rcases last1 u hu with h | h <;> simp [h]
  have hl : (l ++ [c]).getLast? = some c := by simp
  rcases all _ h with e | e | e | e | e | e <;> (rw [e] at hl; simp at hl; simp [← hl])

theorem low_is : ∀ x : Fin 256, (Ascii.lowB (UInt8.ofNat x.val) = 46 → UInt8.ofNat x.val = 46) ∧ (Ascii.lowB (UInt8.ofNat x.val) = 101 → UInt8.ofNat x.val = 101 ∨ UInt8.ofNat x.val = 69) ∧ (Ascii.lowB (UInt8.ofNat x.val) = 47 → UInt8.ofNat x.val = 47) := by decide +kernel

theorem dots_other (l : T) (c : UInt8) (h1 : c ≠ 46) (h2 : c ≠ 101) (h3 : c ≠ 69) : dotsN (l ++ [c]) = 0 := by
  have key : ¬ (rep (low (l ++ [c])) = [46] ∨ rep (low (l ++ [c])) = [46, 46]) := by
    intro h
    rw [low_append, low_cons] at h
    obtain ⟨k1, k2, _⟩ := Pct.all256 (p := fun x => (Ascii.lowB x = 46 → x = 46) ∧ (Ascii.lowB x = 101 → x = 101 ∨ x = 69) ∧ (Ascii.lowB x = 47 → x = 47)) low_is c
    rcases rep_last (Ascii.lowB c) h with h | h
    · exact h1 (k1 h)
    · rcases k2 h with h | h
      · exact h2 h
      · exact h3 h
  unfold dotsN
  rw [if_neg (fun h => key (.inl h)), if_neg (fun h => key (.inr h))]

/-! ### What is encoded -/

def enc (l : T) : T := Pct.encode 3 l

theorem enc_append (a b : T) : enc (a ++ b) = enc a ++ enc b := Pct.encode_append 3 a b

theorem free47 : Pct.inB 3 47 = false := by decide +kernel

theorem hexC47 : ∀ n : Fin 16, Pct.hexC n.val ≠ 47 := by decide +kernel

theorem enc_no (l : T) (h : (47 : UInt8) ∉ l) : (47 : UInt8) ∉ enc l := by
  induction l with
  | nil => simp [enc, Pct.encode_nil]
  | cons a r ih =>
    simp only [List.mem_cons, not_or] at h
    unfold enc at ih ⊢
    rw [Pct.encode_cons]
    cases e : Pct.inB 3 a
    · rw [Pct.enc1_out e]
      simp only [List.cons_append, List.nil_append, List.mem_cons, not_or]
      exact ⟨h.1, ih h.2⟩
    · rw [Pct.enc1_in e]
      simp only [List.cons_append, List.nil_append, List.mem_cons, not_or]
      exact ⟨by decide, fun e => hexC47 ⟨_, (Pct.div16 a).1⟩ e.symm, fun e => hexC47 ⟨_, (Pct.div16 a).2⟩ e.symm, ih h.2⟩

theorem enc_slash (r : T) : enc (47 :: r) = 47 :: enc r := by unfold enc; rw [Pct.encode_cons, Pct.enc1_out free47]; rfl

theorem enc_ready (l : T) : Pct.readyB 3 (enc l) = true := Pct.ready_encode 3 l

theorem enc_same (l : T) (h : Pct.readyB 3 l = true) : enc l = l := Pct.encode_ready 3 l h

theorem strip_enc (l : T) : enc (strip l) = strip (enc l) := by
  match l with
  | [] => rfl
  | c :: r =>
    by_cases h : c = 47
    · subst h; rw [strip_slash, enc_slash, strip_slash]
    · rw [strip_other c r h]
      have : (47 : UInt8) ∉ enc [c] := enc_no [c] (by simp; exact fun e => h e.symm)
      unfold enc at this ⊢
      rw [Pct.encode_cons] at this ⊢
      rw [Pct.encode_nil, List.append_nil] at this
      cases e : Pct.inB 3 c
      · rw [Pct.enc1_out e]
        exact (strip_other c _ h).symm
      · rw [Pct.enc1_in e]
        exact (strip_other 37 _ (by decide)).symm

/-- Each percent sign is followed by 2e. -/
def tame : T → Prop
  | [] => True
  | c :: r => (c = 37 → ∃ v, r = 50 :: 101 :: v) ∧ tame r

theorem hexC_dot : ∀ a b : Fin 16, Ascii.lowB (Pct.hexC a.val) = 50 → Ascii.lowB (Pct.hexC b.val) = 101 → a.val * 16 + b.val = 46 := by decide +kernel

theorem in46 : Pct.inB 3 46 = false := by decide +kernel

theorem enc_tame (l t : T) (h : low (enc l) = t) (ht : tame t) : Pct.readyB 3 l = true := by
  induction l generalizing t with
  | nil => rfl
  | cons a r ih =>
    rw [Pct.ready_cons]
    unfold enc at h ih
    rw [Pct.encode_cons] at h
    cases e : Pct.inB 3 a
    · rw [Pct.enc1_out e] at h
      cases t with
      | nil => simp [low, Ascii.lower] at h
      | cons b t =>
        rw [ih t (by simpa [low, Ascii.lower] using (List.cons.inj h).2) ht.2]
        rfl
    · exfalso
      rw [Pct.enc1_in e] at h
      cases t with
      | nil => simp [low, Ascii.lower] at h
      | cons b t =>
        have h1 : Ascii.lowB 37 = b := (List.cons.inj h).1
        rw [low37] at h1
        obtain ⟨v, rfl⟩ := ht.1 h1.symm
        have h2 := (List.cons.inj h).2
        have h3 : Ascii.lowB (Pct.hexC (a.toNat / 16)) = 50 := (List.cons.inj h2).1
        have h4 : Ascii.lowB (Pct.hexC (a.toNat % 16)) = 101 := (List.cons.inj (List.cons.inj h2).2).1
        have h5 := hexC_dot ⟨_, (Pct.div16 a).1⟩ ⟨_, (Pct.div16 a).2⟩ h3 h4
        simp only at h5
        have h6 : a = 46 := by rw [← UInt8.toNat_inj]; show a.toNat = 46; omega
        rw [h6, in46] at e
        cases e

theorem rep_forms {m : T} (h : rep m = [46] ∨ rep m = [46, 46]) : tame m := by
  have one : ∀ m : T, rep m = [] → tame m := fun m hm => by rw [rep_empty hm]; trivial
  have step : ∀ (m t : T), rep m = 46 :: t → (∀ u, rep u = t → tame u) → tame m := by
    intro m t hm ht
    rcases rep_dot hm with ⟨u, rfl, hu⟩ | ⟨u, rfl, hu⟩
    · exact ⟨fun e => absurd e (by decide), ht u hu⟩
    · exact ⟨fun _ => ⟨u, rfl⟩, fun e => absurd e (by decide), fun e => absurd e (by decide), ht u hu⟩
  rcases h with h | h
  · exact step m [] h one
  · exact step m [46] h (fun u hu => step u [] hu one)

/-- What is encoded are no dots, if the text is none. -/
theorem dots_enc (l : T) (h : dotsN l = 0) : dotsN (enc l) = 0 := by
  have key : ¬ (rep (low (enc l)) = [46] ∨ rep (low (enc l)) = [46, 46]) := by
    intro h2
    have := enc_same l (enc_tame l _ rfl (rep_forms h2))
    rw [this] at h2
    rcases dots_cases l with ⟨e, _⟩ | ⟨e, _⟩ | ⟨_, e1, e2⟩
    · omega
    · omega
    · rcases h2 with h2 | h2
      · exact e1 h2
      · exact e2 h2
  unfold dotsN
  rw [if_neg (fun h => key (.inl h)), if_neg (fun h => key (.inr h))]

/-! ### Without dots -/

/-- One segment more, or one less; is it the last one? -/
def step (out : List T) (last : Bool) (s : T) : List T :=
  if dotsN s = 0 then out ++ [s] else if dotsN s = 2 then (if last then out.dropLast ++ [[]] else out.dropLast) else (if last then out ++ [[]] else out)

theorem step_none (out : List T) (last : Bool) (s : T) (h : dotsN s = 0) : step out last s = out ++ [s] := by unfold step; rw [if_pos h]

theorem step_two (out : List T) (last : Bool) (s : T) (h : dotsN s = 2) : step out last s = if last then out.dropLast ++ [[]] else out.dropLast := by unfold step; rw [if_neg (by omega), if_pos h]

theorem step_one (out : List T) (last : Bool) (s : T) (h : dotsN s = 1) : step out last s = if last then out ++ [[]] else out := by unfold step; rw [if_neg (by omega), if_neg (by omega)]

theorem step_len (out : List T) (last : Bool) (s : T) : (step out last s).length ≤ out.length + 1 := by
  unfold step
  split
  · simp
  · split <;> (split <;> simp <;> omega)

theorem step_last (out : List T) (s : T) : step out true s ≠ [] := by
  unfold step
  split
  · simp
  · split <;> simp

def fold (out : List T) (l : List T) : List T := l.foldl (fun o s => step o false s) out

def norm : List T → List T → List T
  | out, [] => out
  | out, [s] => step out true s
  | out, s :: r => norm (step out false s) r

theorem norm_nil (out : List T) : norm out [] = out := by simp [norm]

theorem norm_one (out : List T) (s : T) : norm out [s] = step out true s := by simp [norm]

theorem norm_cons (out : List T) (s : T) (r : List T) (h : r ≠ []) : norm out (s :: r) = norm (step out false s) r := by
  cases r with
  | nil => exact absurd rfl h
  | cons a r => simp [norm]

theorem norm_append (out a b : List T) (h : b ≠ []) : norm out (a ++ b) = norm (fold out a) b := by
  induction a generalizing out with
  | nil => rfl
  | cons s r ih =>
    rw [List.cons_append, norm_cons out s _ (by simp [h]), ih]
    rfl

theorem norm_ne (out : List T) (l : List T) (h : l ≠ []) : norm out l ≠ [] := by
  induction l generalizing out with
  | nil => exact absurd rfl h
  | cons s r ih =>
    by_cases hr : r = []
    · subst hr; rw [norm_one]; exact step_last _ _
    · rw [norm_cons out s r hr]; exact ih _ hr

theorem norm_len (out : List T) (l : List T) : (norm out l).length ≤ out.length + l.length := by
  induction l generalizing out with
  | nil => rw [norm_nil]; simp
  | cons s r ih =>
    by_cases hr : r = []
    · subst hr; rw [norm_one]; have := step_len out true s; simp; omega
    · rw [norm_cons out s r hr]
      have := ih (step out false s)
      have := step_len out false s
      simp
      omega

theorem step_mem (out : List T) (last : Bool) (s : T) (p : T → Prop) (h0 : p []) (ho : ∀ t ∈ out, p t) (hs : dotsN s = 0 → p s) : ∀ t ∈ step out last s, p t := by
  have hd : ∀ t ∈ out.dropLast, p t := fun t ht => ho t (List.dropLast_subset _ ht)
  intro t ht
  unfold step at ht
  split at ht
  · rename_i h
    rcases List.mem_append.1 ht with ht | ht
    · exact ho t ht
    · simp at ht; subst ht; exact hs h
  · split at ht
    · split at ht
      · rcases List.mem_append.1 ht with ht | ht
        · exact hd t ht
        · simp at ht; subst ht; exact h0
      · exact hd t ht
    · split at ht
      · rcases List.mem_append.1 ht with ht | ht
        · exact ho t ht
        · simp at ht; subst ht; exact h0
      · exact ho t ht

theorem norm_mem (out : List T) (l : List T) (p : T → Prop) (h0 : p []) (ho : ∀ t ∈ out, p t) (hs : ∀ t ∈ l, dotsN t = 0 → p t) : ∀ t ∈ norm out l, p t := by
  induction l generalizing out with
  | nil => rw [norm_nil]; exact ho
  | cons s r ih =>
    by_cases hr : r = []
    · subst hr; rw [norm_one]; exact step_mem out true s p h0 ho (hs s (by simp))
    · rw [norm_cons out s r hr]
      exact ih _ (step_mem out false s p h0 ho (hs s (by simp))) (fun t ht => hs t (by simp [ht]))

theorem dots_nil : dotsN [] = 0 := by decide +kernel

/-- No dots stay. -/
theorem norm_dots (l : List T) : ∀ t ∈ norm [] l, dotsN t = 0 := norm_mem [] l _ dots_nil (by simp) (fun _ _ h => h)

theorem fold_plain (out l : List T) (h : ∀ t ∈ l, dotsN t = 0) : fold out l = out ++ l := by
  induction l generalizing out with
  | nil => simp [fold]
  | cons s r ih =>
    show fold (step out false s) r = _
    rw [step_none out false s (h s (by simp)), ih _ (fun t ht => h t (by simp [ht]))]
    simp

theorem norm_plain (l : List T) (h : ∀ t ∈ l, dotsN t = 0) (out : List T) : norm out l = out ++ l := by
  induction l generalizing out with
  | nil => rw [norm_nil]; simp
  | cons s r ih =>
    by_cases hr : r = []
    · subst hr; rw [norm_one, step_none out true s (h s (by simp))]
    · rw [norm_cons out s r hr, step_none out false s (h s (by simp)), ih (fun t ht => h t (by simp [ht]))]
      simp

theorem norm_again (l : List T) : norm [] (norm [] l) = norm [] l := norm_plain _ (norm_dots l) []

def dd : T := [46, 46]

theorem dots_dd : dotsN dd = 2 := by decide +kernel

theorem fold_up (out : List T) (n : Nat) : fold out (List.replicate n dd) = out.take (out.length - n) := by
  induction n generalizing out with
  | zero => simp [fold]
  | succ n ih =>
    show fold (step out false dd) (List.replicate n dd) = _
    rw [step_two out false dd dots_dd, ih]
    simp only [Bool.false_eq_true, if_false]
    rw [List.dropLast_eq_take, List.take_take, List.length_take]
    congr 1
    omega

theorem fold_append (out a b : List T) : fold out (a ++ b) = fold (fold out a) b := by simp [fold]

/-- As often up as there are segments, and more. -/
theorem norm_top (base : List T) (n : Nat) (h : ∀ t ∈ base, dotsN t = 0) (hn : base.length ≤ n) (l : List T) (hl : l ≠ []) : norm [] (base.dropLast ++ (List.replicate n dd ++ l)) = norm [] (List.replicate n dd ++ l) := by
  rw [← List.append_assoc, norm_append _ _ _ hl, norm_append _ _ _ hl, fold_append, fold_plain [] _ (fun t ht => h t (List.dropLast_subset _ ht)), fold_up, fold_up]
  have e1 : (([] : List T) ++ base.dropLast).take ((([] : List T) ++ base.dropLast).length - n) = [] := by
    rw [show (([] : List T) ++ base.dropLast).length - n = 0 by simp; omega]; rfl
  rw [e1, show (([] : List T).take (([] : List T).length - n)) = [] from List.take_nil]

theorem norm_up (a : T) (h : dotsN a = 0) (l : List T) (hl : l ≠ []) : norm [] (a :: dd :: l) = norm [] l := by
  rw [norm_cons _ _ _ (by simp), norm_cons _ _ _ hl, step_none _ _ _ h, step_two _ _ _ dots_dd]
  rfl

theorem norm_dot (d : T) (h : dotsN d = 1) (l : List T) (hl : l ≠ []) : norm [] (d :: l) = norm [] l := by
  rw [norm_cons _ _ _ hl, step_one _ _ _ h]
  rfl

theorem norm_two (d : T) (h : dotsN d = 2) (l : List T) (hl : l ≠ []) : norm [] (d :: l) = norm [] l := by
  rw [norm_cons _ _ _ hl, step_two _ _ _ h]
  rfl

/-! ### Paths -/

def segs (s : T) : List T := split (enc (strip s))

def merge (base : List T) (s : T) : List T := norm [] (base.dropLast ++ segs s)

def parse (s : T) : List T := norm [] (segs s)

theorem segs_ne (s : T) : segs s ≠ [] := split_ne _

def okT (t : T) : Bool := Pct.readyB 3 t && (!t.contains 47 && dotsN t == 0)

theorem okT_iff (t : T) : okT t = true ↔ Pct.readyB 3 t = true ∧ (47 : UInt8) ∉ t ∧ dotsN t = 0 := by
  unfold okT
  simp only [Bool.and_eq_true, Bool.not_eq_true', beq_iff_eq, List.contains_eq_mem, decide_eq_false_iff_not]

def mayP (l : List T) : Bool := l.all okT && !l.isEmpty

theorem mayP_iff (l : List T) : mayP l = true ↔ (∀ t ∈ l, okT t = true) ∧ l ≠ [] := by
  unfold mayP
  rw [Bool.and_eq_true, List.all_eq_true]
  simp

theorem okT_nil : okT [] = true := by decide +kernel

theorem segs_ok (s : T) : ∀ t ∈ segs s, Pct.readyB 3 t = true ∧ (47 : UInt8) ∉ t := by
  intro t ht
  have := split_all (fun c => !Pct.inB 3 c) (enc (strip s)) (enc_ready _) t ht
  exact ⟨this.2, this.1⟩

theorem norm_okT (l : List T) (h : ∀ t ∈ l, Pct.readyB 3 t = true ∧ (47 : UInt8) ∉ t) : ∀ t ∈ norm [] l, okT t = true :=
  norm_mem [] l _ okT_nil (by simp) (fun t ht hd => (okT_iff t).2 ⟨(h t ht).1, (h t ht).2, hd⟩)

theorem parse_may (s : T) : mayP (parse s) = true := (mayP_iff _).2 ⟨norm_okT _ (segs_ok s), norm_ne _ _ (segs_ne s)⟩

theorem merge_may (base : List T) (s : T) (h : mayP base = true) : mayP (merge base s) = true := by
  refine (mayP_iff _).2 ⟨norm_okT _ (fun t ht => ?_), norm_ne _ _ (by simp [segs_ne])⟩
  rcases List.mem_append.1 ht with ht | ht
  · have := (okT_iff t).1 (((mayP_iff base).1 h).1 t (List.dropLast_subset _ ht))
    exact ⟨this.1, this.2.1⟩
  · exact segs_ok s t ht

/-- What may be is shown, and parsed again. -/
theorem parse_show (l : List T) (h : mayP l = true) : parse (show1 l) = l := by
  obtain ⟨ha, hn⟩ := (mayP_iff l).1 h
  have h1 : ∀ t ∈ l, Pct.readyB 3 t = true := fun t ht => ((okT_iff t).1 (ha t ht)).1
  have h2 : ∀ t ∈ l, (47 : UInt8) ∉ t := fun t ht => ((okT_iff t).1 (ha t ht)).2.1
  have h3 : ∀ t ∈ l, dotsN t = 0 := fun t ht => ((okT_iff t).1 (ha t ht)).2.2
  unfold parse segs
  rw [strip_enc, enc_same _ (show_all (fun c => !Pct.inB 3 c) (by rw [free47]; rfl) l h1)]
  cases l with
  | nil => exact absurd rfl hn
  | cons a r =>
    rw [show1, show strip (47 :: a ++ show1 r) = a ++ show1 r from rfl, split_show r (fun t ht => h2 t (by simp [ht])) a (h2 a (by simp)), norm_plain _ h3]
    rfl

theorem merge_nil (s : T) : merge [] s = parse s := rfl

theorem segs_slash (s : T) : segs (47 :: s) = split (enc s) := by unfold segs; rw [strip_slash]

theorem split_enc_cons (a r : T) (h : (47 : UInt8) ∉ a) : split (enc (a ++ 47 :: r)) = enc a :: split (enc r) := by
  rw [enc_append, enc_slash, split_cons _ _ (enc_no a h)]

/-- As often two dots and a slash. -/
def ups : Nat → T
  | 0 => []
  | n + 1 => ups n ++ [46, 46, 47]

theorem ups_cons (n : Nat) : ups (n + 1) = [46, 46, 47] ++ ups n := by
  induction n with
  | zero => rfl
  | succ n ih =>
    show ups (n + 1) ++ [46, 46, 47] = [46, 46, 47] ++ (ups n ++ [46, 46, 47])
    rw [ih, List.append_assoc]

theorem ups_len (n : Nat) : (ups n).length = 3 * n := by
  induction n with
  | zero => rfl
  | succ n ih => show (ups n ++ [46, 46, 47]).length = _; rw [List.length_append, ih]; simp; omega

theorem enc_dd : enc dd = dd := by decide +kernel

theorem split_ups (n : Nat) (s : T) : split (enc (ups n ++ s)) = List.replicate n dd ++ split (enc s) := by
  induction n with
  | zero => rfl
  | succ n ih =>
    rw [ups_cons, show [46, 46, 47] ++ ups n ++ s = dd ++ 47 :: (ups n ++ s) by simp [dd], split_enc_cons dd _ (by decide), ih, enc_dd]
    rfl

theorem merge_top (base : List T) (s : T) (h : mayP base = true) : merge base (ups base.length ++ s) = parse (ups base.length ++ s) := by
  obtain ⟨ha, hn⟩ := (mayP_iff base).1 h
  obtain ⟨n, hl⟩ : ∃ n, base.length = n + 1 := ⟨base.length - 1, by have := List.length_pos_iff.2 hn; omega⟩
  have hs : segs (ups base.length ++ s) = List.replicate base.length dd ++ split (enc s) := by
    unfold segs
    rw [hl, ups_cons, show strip ([46, 46, 47] ++ ups n ++ s) = [46, 46, 47] ++ ups n ++ s from rfl, ← ups_cons, split_ups]
  unfold merge parse
  rw [hs]
  exact norm_top base base.length (fun t ht => ((okT_iff t).1 (ha t ht)).2.2) (Nat.le_refl _) _ (split_ne _)

theorem parse_two (a b : T) (ha : (47 : UInt8) ∉ a) (hb : (47 : UInt8) ∉ b) (h1 : dotsN a = 0) (h2 : dotsN b = 0) : parse (47 :: (a ++ 47 :: b)) = [enc a, enc b] := by
  unfold parse
  rw [segs_slash, split_enc_cons a b ha, split_none _ (enc_no b hb)]
  exact norm_plain _ (by simp [dots_enc a h1, dots_enc b h2]) []

theorem parse_ne (s : T) : parse s ≠ [] := norm_ne _ _ (segs_ne s)

theorem up_one (a s : T) (ha : (47 : UInt8) ∉ a) (h : dotsN a = 0) : parse (47 :: (a ++ 47 :: 46 :: 46 :: 47 :: s)) = parse (47 :: s) := by
  unfold parse
  rw [segs_slash, segs_slash, split_enc_cons a _ ha, show (46 :: 46 :: 47 :: s : T) = dd ++ 47 :: s from rfl, split_enc_cons dd _ (by decide), enc_dd]
  exact norm_up _ (dots_enc a h) _ (split_ne _)

theorem up_two (s : T) : parse (47 :: 46 :: 47 :: s) = parse (47 :: s) := by
  unfold parse
  rw [segs_slash, segs_slash, show (46 :: 47 :: s : T) = [46] ++ 47 :: s from rfl, split_enc_cons _ _ (by decide)]
  exact norm_dot _ (by decide +kernel) _ (split_ne _)

theorem up_three (s : T) : parse (47 :: 46 :: 46 :: 47 :: 37 :: 50 :: 101 :: 37 :: 50 :: 69 :: 47 :: s) = parse (47 :: s) := by
  unfold parse
  rw [segs_slash, segs_slash, show (46 :: 46 :: 47 :: 37 :: 50 :: 101 :: 37 :: 50 :: 69 :: 47 :: s : T) = dd ++ 47 :: ([37, 50, 101, 37, 50, 69] ++ 47 :: s) from rfl, split_enc_cons dd _ (by decide), split_enc_cons _ _ (by decide), enc_dd,
    norm_two dd dots_dd _ (by simp)]
  exact norm_two _ (by decide +kernel) _ (split_ne _)



open Go.RowKit Go.Shelf


/-- The builder's WriteString, by what the laying of strings.ReplaceAll holds. -/
theorem write_any (B b : Nat) (bs : List Value) (s : ByteArray) (w : World) (h : Lib.IsBuilder 88 5 B b bs w) (hlen : bs.length + s.size ≤ 140737488355328) (hBw : B ≤ w.heap.size) :
    Calls Tryz.prog 88 #[.pointer (some ⟨b, 0, none⟩), .string s] w fun e w' => e = .returned (.tuple #[.int .i64 s.size, .nilIface]) ∧ (Lib.BuilderAt 88 5 B b (.pointer (some ⟨b, 0, none⟩)) (bs ++ Lib.strCells s) w' ∧ Below B w w') :=
  Any.Builder_WriteString { Tryz.lays155 with } Tryz.Builder_Extra_155 B b bs s w h hlen hBw

set_option maxRecDepth 100000 in
set_option maxHeartbeats 1000000 in
theorem dots_any (s : ByteArray) (hs : s.size ≤ 1000000) (m : Int) (w : World) (hm : MaxAt m w) :
    Calls Tryz.prog 111 #[.string s] w fun e w' => e = .returned (.int .i64 (dotsN s.data.toList : Nat)) ∧ Below w.heap.size w w' := by
  go_enter Tryz.func111, Tryz.ntmps111
  go_wp2_with fail
  refine (Ascii.lower_calls s (by unfold maxLen; omega) (by omega) _).mono ?_
  rintro e w1 ⟨rfl, hB1⟩
  have hl : (⟨(Ascii.lower s.data.toList).toArray⟩ : ByteArray).size = s.size := by show (Ascii.lower s.data.toList).length = _; simp [Ascii.lower]
  have hcases := Lib.hid (dots_cases s.data.toList)
  unfold low at hcases
  obtain ⟨L, hL⟩ : ∃ L : ByteArray, (⟨(Ascii.lower s.data.toList).toArray⟩ : ByteArray) = L := ⟨_, rfl⟩
  have hLl : L.data.toList = Ascii.lower s.data.toList := by rw [← hL]
  rw [hL] at hl ⊢
  have hcount := Lib.countB_mul_le ⟨#[37, 50, 101]⟩ (by decide) L.size L (Nat.le_refl _)
  rw [show (⟨#[37, 50, 101]⟩ : ByteArray).size = 3 from rfl] at hcount
  have hr := Tryz.strings_ReplaceAll L ⟨#[37, 50, 101]⟩ ⟨#[46]⟩ m w1 (by omega) (hm.later hB1) (by decide) (by rw [show (⟨#[46]⟩ : ByteArray).size = 1 from rfl]; omega)
  rw [show (⟨#[37, 50, 101]⟩ : ByteArray).data.toList = p2e from rfl, show (⟨#[46]⟩ : ByteArray).data.toList = [46] from rfl, rep_all, hLl] at hr
  obtain ⟨R, hR⟩ : ∃ R : ByteArray, (⟨(rep (Ascii.lower s.data.toList)).toArray⟩ : ByteArray) = R := ⟨_, rfl⟩
  have hRl : R.toList = rep (Ascii.lower s.data.toList) := by rw [← hR, tl]
  rw [hR] at hr
  have hr' := Lib.hid hr
  clear hr
  rw [← hRl] at hcases
  clear hR hRl hL hLl hl hcount
  rcases hcases.out with ⟨hd, h⟩ | ⟨hd, h⟩ | ⟨hd, h, h'⟩ <;> have HD := Lib.hid hd <;> clear hd
  · have q1 : (R.toList == [46]) = true := by rw [h]; rfl
    clear h hcases
    go_wp2_with fail
    refine hr'.out.mono ?_
    rintro e w2 ⟨rfl, hB2⟩
    go_wp2
    go_ret
    exact ⟨by rw [HD.out]; rfl, hB1.trans (hB2.mono hB1.size)⟩
  · have q1 : (R.toList == [46]) = false := by rw [h]; rfl
    have q2 : (R.toList == [46, 46]) = true := by rw [h]; rfl
    clear h hcases
    go_wp2_with fail
    refine hr'.out.mono ?_
    rintro e w2 ⟨rfl, hB2⟩
    go_wp2
    go_ret
    exact ⟨by rw [HD.out]; rfl, hB1.trans (hB2.mono hB1.size)⟩
  · have q1 : (R.toList == [46]) = false := by simpa using h
    have q2 : (R.toList == [46, 46]) = false := by simpa using h'
    clear h h' hcases
    go_wp2_with fail
    refine hr'.out.mono ?_
    rintro e w2 ⟨rfl, hB2⟩
    go_wp2
    go_ret
    exact ⟨by rw [HD.out]; rfl, hB1.trans (hB2.mono hB1.size)⟩

/-- All but the last one. -/
theorem ahead_any (a : Option Addr) (n c : Nat) (hn : n ≤ c) (hc : c ≤ maxLen) (h0 : a = none → c = 0) (w : World) :
    Calls Tryz.prog 184 #[.slice a n c] w fun e w' => e = .returned (.slice a (n - 1) c) ∧ w = w' := by
  unfold maxLen at hc
  rcases Nat.eq_zero_or_pos n with rfl | hp
  · cases a with
    | none =>
      obtain rfl := h0 rfl
      go_enter Tryz.func184, Tryz.ntmps184
      go_wp2
      go_ret
      exact ⟨rfl, rfl⟩
    | some x =>
      clear h0
      go_enter Tryz.func184, Tryz.ntmps184
      go_wp2
      go_ret
      exact ⟨rfl, rfl⟩
  · obtain ⟨k, rfl⟩ : ∃ k, n = k + 1 := ⟨n - 1, by omega⟩
    cases a with
    | none => exact absurd (h0 rfl) (by omega)
    | some x =>
      clear h0 hp
      go_enter Tryz.func184, Tryz.ntmps184
      go_wp2
      go_ret
      exact ⟨rfl, rfl⟩




/-- Nothing turns but the blocks Bo and row. -/
structure Turned (Bo : Nat) (row : Option Nat) (W W' : World) : Prop where
  os : W'.os = W.os
  tape : W'.tape = W.tape
  output : W'.output = W.output
  size : W.heap.size ≤ W'.heap.size
  block : ∀ k, k < W.heap.size → k ≠ Bo → some k ≠ row → W'.heap[k]? = W.heap[k]?

theorem turned_of {W w1 w2 : World} {o : Obj} {Bo : Nat} {row : Option Nat} (hB : Below W.drew.heap.size W.drew w1) (hg : (w1.alloc o).grownBy w2 row) (u : Value) : Turned Bo row W (w2.setCell ⟨Bo, 0, none⟩ u) := by
  have h1 := hB.size
  have h2 := hg.size
  have h3 := (grownBy_setCell' w2 Bo u).size
  simp only [World.size_alloc] at h2
  have h0 : W.drew.heap = W.heap := rfl
  rw [h0] at h1 hB
  refine ⟨hg.os.trans hB.os, hg.tape.trans hB.tape, hg.output.trans hB.output, by omega, fun k hk hne hr => ?_⟩
  have hk1 : k < w1.heap.size := by omega
  exact (((grownBy_setCell' w2 Bo u).block k (by omega) (fun e => hne (by cases e; rfl))).trans (hg.block k (by simp; omega) hr)).trans ((Below.heap_alloc w1 o k hk1).trans (hB.block k hk))

set_option maxRecDepth 100000 in
set_option maxHeartbeats 4000000 in
theorem behind_any (B Bo : Nat) (v : Value) (l : List T) (s : ByteArray) (W : World) (hs : s.size ≤ 1000000) (hv : Boxed W Bo 25 v) (hrow : W.ownsRow B 9 1 v l.length (l.map tx)) (hk : l.length + 1 ≤ 1000000) (hB : B ≤ W.heap.size) :
    Calls Tryz.prog 205 #[.string s, .pointer (some ⟨Bo, 0, none⟩)] W fun e W' => (∃ u, e = .returned u) ∧ ∃ v', Boxed W' Bo 25 v' ∧ W'.ownsRow B 9 1 v' (l ++ [s.data.toList]).length ((l ++ [s.data.toList]).map tx) ∧ Turned Bo v.ownBlock W W' := by
  obtain ⟨i0, hi, hz0, hz1, hz2⟩ := info_parts infoText
  have hc0 := hv.cell
  obtain ⟨xs, hxs⟩ : ∃ xs, l.map tx = xs := ⟨_, rfl⟩
  obtain ⟨n, hn⟩ : ∃ n, l.length = n := ⟨_, rfl⟩
  rw [hxs, hn] at hrow
  rw [hn] at hk
  have HXS := Lib.hid hxs
  have HN := Lib.hid hn
  clear hxs hn
  have hvl := hv.lt
  go_enter Tryz.func205, Tryz.ntmps205
  go_wp2
  go_region_law (first
    | (go_simp; go_at_call 40; refine (clone_any s (by omega) _).mono ?_; rintro e w1 ⟨rfl, hB1⟩; have hv1 : Boxed w1 Bo 25 v := boxed_below (W := W.drew) hv hB1; have hc1 := hv1.cell; have hv2 := hv1.alloc (.cells #[.string s] 9); have hc1' := hv2.cell; have hrow2 := (owns_below (W := W.drew) hrow hB1).alloc (.cells #[.string s] 9); have hne := hv2.not_row (by decide) hrow2)
    | (refine step_append_lies _ rfl _ _ 25 rfl B 9 i0 (.string ⟨#[]⟩) 1 16 Tryz.underlying25 hi hz0 hz1 hz2 rfl (by decide) _ _ _ rfl hrow2 ⟨w1.heap.size, 0, none⟩ 1 1 [.string s] rfl rfl (cell_one_new _ _ _) (by simp [Value.oneCell']) (by decide) (by unfold maxLen; omega) (by omega) (by have := hB1.size; simp at this ⊢; omega) _ rfl ?_; intro g cap w2 hown' hgrow hblk hlt; have hc2 := (hv2.kept hgrow hne).cell; have hf2 := (hv2.kept hgrow hne).frozen))
  all_goals
    go_wp2
    go_end0
    have hv3 := hv2.kept hgrow hne
    refine ⟨⟨_, rfl⟩, _, hv3.set _, ?_, turned_of hB1 hgrow _⟩
    rw [List.map_append, HXS.out, List.length_append, HN.out, show [s.data.toList].map tx = [.string s] by simp [tx, tx_of]]
    exact hown'.kept (grownBy_setCell' w2 Bo _) (.inr (hv3.not_row (by decide) hown').symm)



attribute [local go_sem] Oper.semAt_some

/-- Each with whether it is the last one. -/
def pairs (L : List T) : List (T × Bool) := L.mapIdx fun i s => (s, decide (i + 1 = L.length))

theorem pairs_len (L : List T) : (pairs L).length = L.length := by simp [pairs]

theorem pairs_get (L : List T) (k : Nat) (h : k < L.length) : (pairs L)[k]'(by rw [pairs_len]; exact h) = (L[k], decide (k + 1 = L.length)) := by simp [pairs]

theorem pairs_snoc (L : List T) (k : Nat) (h : k < L.length) : (pairs L).take (k + 1) = (pairs L).take k ++ [(L[k], decide (k + 1 = L.length))] := by
  rw [List.take_succ_eq_append_getElem (by rw [pairs_len]; exact h), pairs_get L k h]

/-- The box holds the slice, and that holds the texts. -/
def HeldL (Bs : Nat) (v : Value) (L : List T) (W : World) : Prop := W.cell? ⟨Bs, 0, none⟩ = some v ∧ Strs W v L

def KeepsL (Bs : Nat) (v : Value) (L : List T) (W W' : World) : Prop := HeldL Bs v L W → HeldL Bs v L W'

theorem keepsL_t {Bs : Nat} {v : Value} {L : List T} {A B C : World} (h : KeepsL Bs v L A B) (k : KeepsL Bs v L B C) : KeepsL Bs v L A C := fun x => k (h x)

theorem strs_kept {W W' : World} {v : Value} {L : List T} (h : Strs W v L) (hk : ∀ p u, W.cell? p = some u → W'.cell? p = some u) : Strs W' v L := by
  obtain ⟨a, c, rfl, h1, h2, h3, h4⟩ := h
  refine ⟨a, c, rfl, h1, h2, h3, fun hl => ?_⟩
  obtain ⟨b, off, rfl, hc⟩ := h4 hl
  exact ⟨b, off, rfl, fun j hj => hk _ _ (hc j hj)⟩

theorem keepsL_b {Bs : Nat} {v : Value} {L : List T} {w : World} (W : World) (l : Nat) (o o' : Obj) (_ : w.heap.size ≤ l) (h : W.heap[l]? = some o) (hc : o.isCells = false) (_ : o.isWalk = false) : KeepsL Bs v L W (W.putObj l o') := by
  have key : ∀ p u, W.cell? p = some u → (W.putObj l o').cell? p = some u := fun p u x => cell_kept x (grownBy_putObj' W l o') (fun r e => by cases e; exact ⟨o, h, hc⟩)
  exact fun x => ⟨key _ _ x.1, strs_kept x.2 key⟩

theorem HeldL.later {Bs : Nat} {v : Value} {L : List T} {W W' : World} (h : HeldL Bs v L W) (hB : Below W.heap.size W W') : HeldL Bs v L W' :=
  ⟨(hB.cell (p := ⟨Bs, 0, none⟩) (World.block_lt_of_cell? _ _ h.1)).trans h.1, h.2.later hB⟩

set_option maxRecDepth 100000 in
set_option maxHeartbeats 2000000 in
theorem each1_in (F : Fence) (n : Nat) (h37 : F.fn 218) (hro : F.round = none) (hn : 1 ≤ n) (l Bs : Nat) (v : Value) (L : List T) (J Jx : List (T × Bool) → World → Prop)
    (hs : ∀ t ∈ L, t.length ≤ 1000000)
    (hY : ∀ pre x W, x.1.length ≤ 1000000 → J pre W → pre.length < L.length → YieldAt F (n - 1) Tryz.prog l #[tx x.1, .bool x.2] W fun e W' =>
      (e = .returned (.bool true) ∧ J (pre ++ [x]) W' ∧ KeepsL Bs v L W W') ∨ (e = .returned (.bool false) ∧ Jx (pre ++ [x]) W'))
    (W : World) (hBs : HeldL Bs v L W) (h0 : J [] W) :
    CallsIn F n Tryz.prog 218 #[.func (.yield l) #[] #[], .pointer (some ⟨Bs, 0, none⟩)] W fun e W' => (∃ v, e = .returned v) ∧
      ((∃ ys, ys = pairs L ∧ J ys W') ∨ (∃ pre, pre <+: pairs L ∧ Jx pre W')) := by
  have hHeld := Lib.hid hBs
  obtain ⟨hbox, a, c, rfl, h1, h2, h3, h4⟩ := hBs
  clear h3 h4
  unfold maxLen at h2
  have hl : L.length ≤ 9223372036854775807 := by omega
  refine callsIn_of_wp Tryz.func218 rfl h37 ?_ hro
  simp only [Tryz.ntmps218, List.size_toArray, List.length_cons, List.length_nil, Nat.reduceAdd, Nat.reduceSub, Array.replicate_succ, Array.replicate_zero, List.push_toArray, List.append_toArray, List.nil_append, List.cons_append]
  gi_wp2
  clear hbox
  gi_loopw [7] (fun i wr => ∃ k : Nat, k ≤ L.length ∧ i = .int .i64 k ∧ J ((pairs L).take k) wr ∧ HeldL Bs (.slice a L.length c) L wr)
    (fun i _ => L.length - (intOf i).toNat)
  case atStart => exact ⟨0, Nat.zero_le _, rfl, h0, hHeld.out⟩
  case round =>
    obtain ⟨k, hk, rfl, hJs, hcx⟩ := hrel
    by_cases hlt : k < L.length
    · have hpl : ((pairs L).take k).length < L.length := by
        rw [List.length_take, pairs_len]; omega
      obtain ⟨b, off, rfl, hcell⟩ : ∃ b off, a = some ⟨b, off, none⟩ ∧ ∀ j (h : j < L.length), wr.cell? ⟨b, off + j, none⟩ = some (.string ⟨(L[j]).toArray⟩) := by
        obtain ⟨_, a', c', e, _, _, _, h4⟩ := hcx
        cases e
        exact h4 (by intro e; rw [e] at hlt; simp at hlt)
      have hbx := hcx.1
      have hHx := Lib.hid hcx
      have g := hcell k hlt
      have hkc : k < c := by omega
      have hnext := Lib.hid (pairs_snoc L k hlt)
      obtain ⟨q, hq⟩ : ∃ q, decide (k + 1 = L.length) = q := ⟨_, rfl⟩
      have qe : ((k : Int) == (L.length : Int) - 1) = q := by
        rw [← hq, Bool.eq_iff_iff]
        simp
        omega
      rw [hq] at hnext
      have hts := hs _ (List.getElem_mem hlt)
      obtain ⟨t, ht⟩ : ∃ t, L[k] = t := ⟨_, rfl⟩
      rw [ht] at g hnext hts
      obtain ⟨fn, tmps, assign, body, hy, hR⟩ := hY _ (t, q) wr hts hJs hpl
      simp only [tx] at hy
      clear hcell hpl hcx hq ht
      gi_wp2
      refine hR.mono ?_
      rintro e W3 (⟨rfl, hJ3, hk3⟩ | ⟨rfl, hJx3⟩)
      · gi_wp2
        go_roundw
        case rel => exact ⟨k + 1, by omega, by simp, by rw [hnext.out]; exact hJ3, hk3 hHx.out⟩
        case measure => simp [intOf]; omega
      · gi_wp2
        refine bodyPost_ret (results_none rfl _ _ _) rfl ?_
        exact ⟨⟨_, rfl⟩, .inr ⟨_, by rw [← hnext.out]; exact List.take_prefix _ _, hJx3⟩⟩
    · obtain rfl : k = L.length := by omega
      gi_wp2
      go_end0
      exact ⟨⟨_, rfl⟩, .inl ⟨_, by rw [List.take_of_length_le (by rw [pairs_len]; exact Nat.le_refl _)], hJs⟩⟩

set_option maxHeartbeats 1000000 in
theorem each_in (F : Fence) (n : Nat) (h25 : F.fn 206) (hro : F.round = none) (a : Option Addr) (k c : Nat) (w : World) :
    CallsIn F n Tryz.prog 206 #[.slice a k c] w fun e w' => e = .returned (.func (.func 218) #[] #[.pointer (some ⟨w.heap.size, 0, none⟩)]) ∧ w.alloc (.cells #[.slice a k c] 25) = w' := by
  refine callsIn_of_wp Tryz.func206 rfl h25 ?_ hro
  simp only [Tryz.ntmps206, List.size_toArray, List.length_cons, List.length_nil, Nat.reduceAdd, Nat.reduceSub, Array.replicate_succ, Array.replicate_zero, List.push_toArray, List.append_toArray, List.nil_append, List.cons_append]
  gi_wp2
  go_ret
  exact ⟨rfl, rfl⟩

/-- A segment of a size that can be borne, and whether it is the last one. -/
abbrev Seg := { x : T × Bool // x.1.length ≤ 1000000 }

def vals (ps : List Seg) : List (T × Bool) := ps.map (·.1)

theorem vals_snoc (ps : List Seg) (x : Seg) : vals (ps ++ [x]) = vals ps ++ [x.1] := by simp [vals]

theorem each_stops (F : Fence) (n : Nat) (h37 : F.fn 218) (hro : F.round = none) (hn : 1 ≤ n) (Bs : Nat) (v : Value) (L : List T) (hs : ∀ t ∈ L, t.length ≤ 1000000) (w : World) (hH : HeldL Bs v L w) :
    SeqStopsK F n Tryz.prog 218 #[.pointer (some ⟨Bs, 0, none⟩)] (fun x : Seg => #[tx x.1.1, .bool x.1.2]) (KeepsL Bs v L) (fun ys => vals ys = pairs L) (fun pre => vals pre <+: pairs L) L.length w := by
  intro l J Jx W hW _ _ hY h0
  refine (each1_in F n h37 hro hn l Bs v L (fun ps W => ∃ qs, vals qs = ps ∧ J qs W) (fun ps W => ∃ qs, vals qs = ps ∧ Jx qs W) hs ?_ W (hH.later hW) ⟨[], rfl, h0⟩).mono ?_
  · rintro pre x W1 hx ⟨qs, rfl, hJ⟩ hlt
    obtain ⟨fn, tmps, assign, body, hy, hR⟩ := hY qs ⟨x, hx⟩ W1 hJ (by simpa [vals] using hlt)
    refine ⟨fn, tmps, assign, body, hy, hR.mono ?_⟩
    rintro e W' (⟨rfl, hJ', hk⟩ | ⟨rfl, hJ'⟩)
    · exact .inl ⟨rfl, ⟨_, vals_snoc _ _, hJ'⟩, hk⟩
    · exact .inr ⟨rfl, _, vals_snoc _ _, hJ'⟩
  · rintro e W' ⟨he, ⟨ys, rfl, qs, hq, hJ⟩ | ⟨pre, hp, qs, rfl, hJ⟩⟩
    · exact ⟨he, .inl ⟨qs, hq, hJ⟩⟩
    · exact ⟨he, .inr ⟨qs, hp, hJ⟩⟩



attribute [local go_sem] Oper.semAt_some

/-- What is out behind some segments. -/
def outP (ps : List (T × Bool)) : List T := ps.foldl (fun o p => step o p.2 p.1) []

theorem outP_snoc (ps : List (T × Bool)) (x : T × Bool) : outP (ps ++ [x]) = step (outP ps) x.2 x.1 := by simp [outP]

theorem outP_len (ps : List (T × Bool)) : (outP ps).length ≤ ps.length := by
  refine snocInd (p := fun ps => (outP ps).length ≤ ps.length) (by simp [outP]) (fun l c ih => ?_) ps
  show (outP (l ++ [c])).length ≤ _
  rw [outP_snoc]
  have := step_len (outP l) c.2 c.1
  simp
  omega

theorem fold_pairs (L : List T) (out : List T) (h : L ≠ []) : (pairs L).foldl (fun o p => step o p.2 p.1) out = norm out L := by
  induction L generalizing out with
  | nil => exact absurd rfl h
  | cons s r ih =>
    by_cases hr : r = []
    · subst hr
      rw [norm_one]
      simp [pairs]
    · rw [norm_cons out s r hr, ← ih _ hr]
      have : pairs (s :: r) = (s, false) :: pairs r := by
        have h1 : r.length ≠ 0 := fun e => hr (List.length_eq_zero_iff.1 e)
        simp [pairs, List.mapIdx_cons]
        omega
      rw [this]
      rfl

theorem outP_all (L : List T) : outP (pairs L) = norm [] L := by
  by_cases h : L = []
  · subst h; rw [norm_nil]; rfl
  · exact fold_pairs L [] h

theorem keeps_below {W W' : World} (h : Below W.heap.size W W') (D : Nat) : KeepsFrom D W W' := ⟨h.size, fun k o _ hk _ => (h.block k (Array.getElem?_eq_some_iff.1 hk).1).trans hk⟩

theorem Turned.keeps {Bo B : Nat} {W W' : World} {t : TypeId} {u v : Value} {k : Nat} {xs : List Value} (h : Turned Bo v.ownBlock W W') (hv : Boxed W Bo t u) (hr : W.ownsRow B 9 1 v k xs) (D : Nat) : KeepsFrom D W W' := by
  refine ⟨h.size, fun j o _ hj ho => (h.block j (Array.getElem?_eq_some_iff.1 hj).1 (fun e => ?_) (fun e => ?_)).trans hj⟩
  · subst e
    rw [show W.heap[j]? = _ from hv] at hj; cases hj; cases ho
  · rcases hr.2 with ⟨rfl, _⟩ | ⟨g, cap, cur, rfl, _, hgb, _⟩
    · simp [Value.ownBlock] at e
    · obtain rfl : j = g := by simpa [Value.ownBlock] using e
      rw [hgb] at hj; cases hj; cases ho

theorem Turned.below {Bo B : Nat} {W W' : World} {v : Value} {k : Nat} {xs : List Value} (h : Turned Bo v.ownBlock W W') (hr : W.ownsRow B 9 1 v k xs) (hB : B ≤ Bo) (hw : B ≤ W.heap.size) : Below B W W' := by
  refine ⟨h.os, h.tape, h.output, h.size, fun j hj => h.block j (by omega) (by omega) (fun e => ?_)⟩
  rcases hr.2 with ⟨rfl, _⟩ | ⟨g, cap, cur, rfl, hg, hgb, _⟩
  · simp [Value.ownBlock] at e
  · obtain rfl : j = g := by simpa [Value.ownBlock] using e
    omega

theorem Turned.boxed {Bo B b : Nat} {W W' : World} {t : TypeId} {u v : Value} {k : Nat} {xs : List Value} (h : Turned Bo v.ownBlock W W') (hr : W.ownsRow B 9 1 v k xs) (hb : Boxed W b t u) (hne : b ≠ Bo) (ht : t ≠ 9) : Boxed W' b t u :=
  (h.block b hb.lt hne (hb.not_row ht hr)).trans hb

theorem dots_at (t : T) (hs : t.length ≤ 1000000) (d : Int) (hd : ((dotsN t : Nat) : Int) = d) (m : Int) (w : World) (hm : MaxAt m w) :
    Calls Tryz.prog 111 #[.string ⟨t.toArray⟩] w fun e w' => e = .returned (.int .i64 d) ∧ Below w.heap.size w w' := by
  subst hd
  exact dots_any ⟨t.toArray⟩ hs m w hm

set_option maxRecDepth 100000 in
set_option maxHeartbeats 4000000 in
theorem norm_in (a : Option Addr) (c : Nat) (L : List T) (hL : L.length ≤ 100000) (hs : ∀ t ∈ L, t.length ≤ 1000000) (m : Int) (w : World) (hm : MaxAt m w) (hv0 : Strs w (.slice a L.length c) L) :
    CallsIn Fence.wide 5 Tryz.prog 187 #[.slice a L.length c] w fun e W' => ∃ v', e = .returned v' ∧ W'.ownsRow w.heap.size 9 1 v' (norm [] L).length ((norm [] L).map tx) ∧ Below w.heap.size w W' := by
  refine callsIn_of_wp_marks Tryz.func187 rfl trivial ?_ rfl
  simp only [Tryz.ntmps187, List.size_toArray, List.length_cons, List.length_nil, Nat.reduceAdd, Nat.reduceSub, Array.replicate_succ, Array.replicate_zero, List.push_toArray, List.append_toArray, List.nil_append, List.cons_append]
  gi_wp2_with (refine ⟨trivial, ?_⟩; gi_at_call 206; refine (each_in Fence.wide _ trivial rfl a L.length c _).mono ?_; rintro e w' ⟨rfl, rfl⟩)
  have bO := ((Boxed.new w 25 (.slice none 0 0)).alloc (.cells #[.func (.func 205) #[] #[.pointer (some ⟨w.heap.size, 0, none⟩)]] 179)).alloc (.cells #[.slice a L.length c] 25)
  have bF := (Boxed.new (w.alloc (.cells #[.slice none 0 0] 25)) 179 (.func (.func 205) #[] #[.pointer (some ⟨w.heap.size, 0, none⟩)])).alloc (.cells #[.slice a L.length c] 25)
  have bS := Boxed.new ((w.alloc (.cells #[.slice none 0 0] 25)).alloc (.cells #[.func (.func 205) #[] #[.pointer (some ⟨w.heap.size, 0, none⟩)]] 179)) 25 (.slice a L.length c)
  have hB0 := (((Below.refl w.heap.size w).alloc (Nat.le_refl _) (.cells #[.slice none 0 0] 25)).alloc (by simp) (.cells #[.func (.func 205) #[] #[.pointer (some ⟨w.heap.size, 0, none⟩)]] 179)).alloc (by simp; omega) (.cells #[.slice a L.length c] 25)
  simp only [World.size_alloc] at bO bF bS
  refine wpIn_rangeFunc_ownG rfl (by omega) (gf := 218) (lb := #[.pointer (some ⟨w.heap.size + 1 + 1, 0, none⟩)]) rfl trivial (enters_of Tryz.func218 (by kernel_rfl) rfl)
    (each_stops Fence.wide 4 trivial rfl (by omega) (w.heap.size + 1 + 1) (.slice a L.length c) L hs _ ⟨bS.cell, hv0.later hB0⟩) keepsL_t keepsL_b (Below.refl _ _) (fun _ => rfl)
    (fun pre W => (∃ u, Boxed W w.heap.size 25 u ∧ W.ownsRow w.heap.size 9 1 u (outP (vals pre)).length ((outP (vals pre)).map tx) ∧ True) ∧ Boxed W (w.heap.size + 1) 179 (.func (.func 205) #[] #[.pointer (some ⟨w.heap.size, 0, none⟩)]) ∧ Boxed W (w.heap.size + 1 + 1) 25 (.slice a L.length c) ∧ Below w.heap.size w W)
    (fun _ _ _ => False)
    (OwnFrom.and (Own.from (holdsRow_own w.heap.size w.heap.size 25 9 1 (fun pre => (outP (vals pre)).length) (fun pre => (outP (vals pre)).map tx) (fun _ _ => True)) _) (OwnFrom.and (Own.from (boxed_own _ _ _) _) (OwnFrom.and (Own.from (boxed_own _ _ _) _) (ownFrom_below (Nat.le_refl _) (by simp; omega)))))
    (fun _ _ _ _ _ hs _ _ => hs)
    ⟨⟨_, bO, ⟨rfl, .inl ⟨rfl, rfl⟩⟩, trivial⟩, bF, bS, hB0⟩
    (fun x => { tmps := #[.slice a L.length c, undef, .slice none 0 0, .pointer (some ⟨w.heap.size, 0, none⟩), .pointer (some ⟨w.heap.size + 1, 0, none⟩), tx x.1.1, .bool x.1.2, undef, .func (.func 205) #[] #[.pointer (some ⟨w.heap.size, 0, none⟩)], .slice a L.length c, .func (.func 218) #[] #[.pointer (some ⟨w.heap.size + 1 + 1, 0, none⟩)], tx x.1.1, .bool x.1.2, undef, undef, undef, undef, undef, undef, undef, undef, undef, undef, undef, undef, undef, undef, undef, undef, undef], defers := [] }) ?assign ?body ?done ?stop
  case assign =>
    intro l x W K hK
    gi_wp2
    exact hK
  case body =>
    rintro l pre ⟨⟨t, q⟩, ht⟩ W ⟨⟨u, hv, hrow, _⟩, hF, hS, hB⟩ hlt
    have hstep : outP (vals (pre ++ [⟨(t, q), ht⟩])) = step (outP (vals pre)) q t := by rw [vals_snoc, outP_snoc]
    have hlen : (outP (vals pre)).length ≤ 100000 := by
      have h1 := outP_len (vals pre)
      have h2 : (vals pre).length = pre.length := by simp [vals]
      omega
    have HS := Lib.hid hstep
    clear hstep
    generalize outP (vals pre) = out at hrow HS hlen
    have hmW := hm.later hB
    have hB0' := hB.size
    simp only at ht
    rcases dots_cases t with ⟨hd, _⟩ | ⟨hd, _⟩ | ⟨hd, _⟩
    · -- one dot
      have HD := dots_at t ht 1 (by rw [hd]; rfl) m W hmW
      have h1 := step_one out q t hd
      clear hd
      cases q
      · gi_wp2_with fail
        refine ⟨trivial, (CallsIn.inRound l (callsIn_wide.2 HD)).mono ?_⟩
        rintro e W1 ⟨rfl, hB1⟩
        gi_wp2
        exact ⟨keeps_below hB1 _, fun h => h.later hB1, ⟨u, boxed_below hv hB1, by rw [HS.out, h1]; exact owns_below hrow hB1, trivial⟩, boxed_below hF hB1, boxed_below hS hB1, hB.trans (hB1.mono hB0')⟩
      · gi_wp2_with fail
        refine ⟨trivial, (CallsIn.inRound l (callsIn_wide.2 HD)).mono ?_⟩
        rintro e W1 ⟨rfl, hB1⟩
        have hv1 := boxed_below hv hB1
        have hrow1 := owns_below hrow hB1
        have hF1 := boxed_below hF hB1
        have hS1 := boxed_below hS hB1
        have hc1 := hF1.cell
        have hsz := hB1.size
        gi_wp2_with fail
        refine ⟨trivial, (CallsIn.inRound l (callsIn_wide.2 (behind_any w.heap.size w.heap.size u out ⟨#[]⟩ W1 (by decide) hv1 hrow1 (by omega) (by omega)))).mono ?_⟩
        rintro e W2 ⟨⟨_, rfl⟩, v', hv2, hrow2, ht2⟩
        have hb2 := ht2.below hrow1 (Nat.le_refl _) (by omega)
        have hB2 := (hB.trans (hB1.mono hB0')).trans hb2
        have hS2 := ht2.boxed hrow1 hS1 (by omega) (by decide)
        gi_wp2
        exact ⟨(keeps_below hB1 _).trans (ht2.keeps hv1 hrow1 _), fun _ => ⟨hS2.cell, hv0.later hB2⟩, ⟨v', hv2, by rw [HS.out, h1]; exact hrow2, trivial⟩, ht2.boxed hrow1 hF1 (by omega) (by decide), hS2, hB2⟩
    · -- two dots
      have HD := dots_at t ht 2 (by rw [hd]; rfl) m W hmW
      have h1 := step_two out q t hd
      clear hd
      obtain ⟨a', c', rfl, k1, k2, k3⟩ := owns_shape hrow
      cases q
      · gi_wp2_with fail
        refine ⟨trivial, (CallsIn.inRound l (callsIn_wide.2 HD)).mono ?_⟩
        rintro e W1 ⟨rfl, hB1⟩
        have hv1 := boxed_below hv hB1
        have hrow1 := owns_below hrow hB1
        have hF1 := boxed_below hF hB1
        have hS1 := boxed_below hS hB1
        have hcv := hv1.cell
        have hfv := hv1.frozen
        have hsz := hB1.size
        gi_wp2_with fail
        refine ⟨trivial, (CallsIn.inRound l (callsIn_wide.2 (ahead_any a' out.length c' k1 k2 k3 W1))).mono ?_⟩
        rintro e W1' ⟨rfl, rfl⟩
        gi_wp2
        have hg := grownBy_setCell' W1 w.heap.size (.slice a' (out.length - 1) c')
        have hb2 := (hB.trans (hB1.mono hB0')).setCell (p := ⟨w.heap.size, 0, none⟩) (Nat.le_refl _) (.slice a' (out.length - 1) c')
        have hS2 := hS1.other (B' := w.heap.size) (by omega) (.slice a' (out.length - 1) c')
        exact ⟨(keeps_below hB1 _).trans ((KeepsOthers.setCell _ _ _).from _), fun _ => ⟨hS2.cell, hv0.later hb2⟩, ⟨_, hv1.set _, by rw [HS.out, h1]; exact (owns_cut hrow1).kept hg (.inr (hv1.not_row (by decide) (owns_cut hrow1)).symm), trivial⟩, hF1.other (by omega) _, hS2, hb2⟩
      · gi_wp2_with fail
        refine ⟨trivial, (CallsIn.inRound l (callsIn_wide.2 HD)).mono ?_⟩
        rintro e W1 ⟨rfl, hB1⟩
        have hv1 := boxed_below hv hB1
        have hrow1 := owns_below hrow hB1
        have hF1 := boxed_below hF hB1
        have hS1 := boxed_below hS hB1
        have hcv := hv1.cell
        have hfv := hv1.frozen
        have hsz := hB1.size
        gi_wp2_with fail
        refine ⟨trivial, (CallsIn.inRound l (callsIn_wide.2 (ahead_any a' out.length c' k1 k2 k3 W1))).mono ?_⟩
        rintro e W1' ⟨rfl, rfl⟩
        have hF2 := hF1.other (B' := w.heap.size) (by omega) (.slice a' (out.length - 1) c')
        have hcF := hF2.cell
        have hg := grownBy_setCell' W1 w.heap.size (.slice a' (out.length - 1) c')
        have hb2 := (hB.trans (hB1.mono hB0')).setCell (p := ⟨w.heap.size, 0, none⟩) (Nat.le_refl _) (.slice a' (out.length - 1) c')
        have hS2 := hS1.other (B' := w.heap.size) (by omega) (.slice a' (out.length - 1) c')
        have hv2 := hv1.set (.slice a' (out.length - 1) c')
        have hrow2 := (owns_cut hrow1).kept hg (.inr (hv1.not_row (by decide) (owns_cut hrow1)).symm)
        have hsz2 := hb2.size
        gi_wp2_with fail
        refine ⟨trivial, (CallsIn.inRound l (callsIn_wide.2 (behind_any w.heap.size w.heap.size _ out.dropLast ⟨#[]⟩ _ (by decide) hv2 hrow2 (by simp; omega) (by omega)))).mono ?_⟩
        rintro e W3 ⟨⟨_, rfl⟩, v', hv3, hrow3, ht3⟩
        have hb3 := hb2.trans (ht3.below hrow2 (Nat.le_refl _) (by omega))
        have hS3 := ht3.boxed hrow2 hS2 (by omega) (by decide)
        gi_wp2
        exact ⟨((keeps_below hB1 _).trans ((KeepsOthers.setCell _ _ _).from _)).trans (ht3.keeps hv2 hrow2 _), fun _ => ⟨hS3.cell, hv0.later hb3⟩, ⟨v', hv3, by rw [HS.out, h1]; exact hrow3, trivial⟩, ht3.boxed hrow2 hF2 (by omega) (by decide), hS3, hb3⟩
    · -- no dots
      have HD := dots_at t ht 0 (by rw [hd]; rfl) m W hmW
      have h1 := step_none out q t hd
      clear hd
      gi_wp2_with fail
      refine ⟨trivial, (CallsIn.inRound l (callsIn_wide.2 HD)).mono ?_⟩
      rintro e W1 ⟨rfl, hB1⟩
      have hv1 := boxed_below hv hB1
      have hrow1 := owns_below hrow hB1
      have hF1 := boxed_below hF hB1
      have hS1 := boxed_below hS hB1
      have hc1 := hF1.cell
      have hsz := hB1.size
      gi_wp2_with fail
      refine ⟨trivial, (CallsIn.inRound l (callsIn_wide.2 (behind_any w.heap.size w.heap.size u out ⟨t.toArray⟩ W1 ht hv1 hrow1 (by omega) (by omega)))).mono ?_⟩
      rintro e W2 ⟨⟨_, rfl⟩, v', hv2, hrow2, ht2⟩
      have hb2 := ht2.below hrow1 (Nat.le_refl _) (by omega)
      have hB2 := (hB.trans (hB1.mono hB0')).trans hb2
      have hS2 := ht2.boxed hrow1 hS1 (by omega) (by decide)
      gi_wp2
      exact ⟨(keeps_below hB1 _).trans (ht2.keeps hv1 hrow1 _), fun _ => ⟨hS2.cell, hv0.later hB2⟩, ⟨v', hv2, by rw [HS.out, h1]; exact hrow2, trivial⟩, ht2.boxed hrow1 hF1 (by omega) (by decide), hS2, hB2⟩
  case done =>
    rintro D ys W hD hys ⟨⟨v, hv, hrow, _⟩, hS, hF, hB⟩ hK
    have hc := hv.cell
    rw [hys, outP_all] at hrow
    gi_wp2
    refine ⟨by simp, .inl ⟨_, _, rfl, run_takeDeferred hK, ?_⟩⟩
    exact ⟨_, results_tmp rfl _ _ _, v, rfl, ownsRow_putObj hrow _ hK rfl, hB.trans (belowK_b (w := w) (Nat.le_refl _) W D _ _ (by simp at hD; omega) hK rfl rfl)⟩
  case stop =>
    rintro D c pre W _ _ h _
    exact h.elim

theorem norm_new (v : Value) (L : List T) (hL : L.length ≤ 100000) (hs : ∀ t ∈ L, t.length ≤ 1000000) (m : Int) (w : World) (hm : MaxAt m w) (h : Strs w v L) :
    Calls Tryz.prog 187 #[v] w fun e W' => ∃ v', e = .returned v' ∧ Strs W' v' (norm [] L) ∧ Below w.heap.size w W' ∧ New w.heap.size v' := by
  have h' := h
  obtain ⟨a, c, rfl, _⟩ := h'
  exact (callsIn_wide.1 (norm_in a c L hL hs m w hm h)).mono fun e W' ⟨v', he, hr, hb⟩ => ⟨v', he, owns_strs hr, hb, owns_new hr⟩

theorem norm_any (v : Value) (L : List T) (hL : L.length ≤ 100000) (hs : ∀ t ∈ L, t.length ≤ 1000000) (m : Int) (w : World) (hm : MaxAt m w) (h : Strs w v L) :
    Calls Tryz.prog 187 #[v] w fun e W' => ∃ v', e = .returned v' ∧ Strs W' v' (norm [] L) ∧ Below w.heap.size w W' := by
  have h' := h
  obtain ⟨a, c, rfl, _⟩ := h'
  exact (callsIn_wide.1 (norm_in a c L hL hs m w hm h)).mono fun e W' ⟨v', he, hr, hb⟩ => ⟨v', he, owns_strs hr, hb⟩



attribute [local go_sem] Oper.semAt_some

theorem index_at (a r : T) (h : (47 : UInt8) ∉ a) : Lib.index (a ++ 47 :: r) [47] = (a.length : Int) := by
  induction a with
  | nil => simp [Lib.index]
  | cons c a ih =>
    simp only [List.mem_cons, not_or] at h
    rw [List.cons_append, Lib.index, ih h.2]
    rw [if_neg (by simp [List.isPrefixOf]; exact h.1), if_neg (by simp)]
    simp

theorem index_no (l : T) (h : (47 : UInt8) ∉ l) : Lib.index l [47] = -1 := by
  induction l with
  | nil => simp [Lib.index]
  | cons c a ih =>
    simp only [List.mem_cons, not_or] at h
    rw [Lib.index, ih h.2, if_neg (by simp [List.isPrefixOf]; exact h.1), if_pos (by rfl)]

theorem cut_at (a r : T) (h : (47 : UInt8) ∉ a) : Lib.cut (a ++ 47 :: r) [47] = (a, r, true) := by
  unfold Lib.cut
  rw [index_at a r h, if_pos (by omega)]
  simp

theorem cut_no (l : T) (h : (47 : UInt8) ∉ l) : Lib.cut l [47] = (l, [], false) := by
  unfold Lib.cut
  rw [index_no l h, if_neg (by omega)]

/-- MaxLen is as it was. -/
def KeepsM (m : Int) (W W' : World) : Prop := MaxAt m W → MaxAt m W'

theorem keepsM_t {m : Int} {A B C : World} (h : KeepsM m A B) (k : KeepsM m B C) : KeepsM m A C := fun x => k (h x)

theorem keepsM_b {m : Int} {w : World} (W : World) (l : Nat) (o o' : Obj) (_ : w.heap.size ≤ l) (h : W.heap[l]? = some o) (hc : o.isCells = false) (_ : o.isWalk = false) : KeepsM m W (W.putObj l o') :=
  fun x => cell_kept x (grownBy_putObj' W l o') (fun r e => by cases e; exact ⟨o, h, hc⟩)

/-- What is left to hand on, told as a number. -/
def leftN : Value → Value → Nat
  | .string b, .bool true => b.size + 1
  | _, _ => 0

theorem leftN_true (R : T) : leftN (.string ⟨R.toArray⟩) (.bool true) = R.length + 1 := rfl

theorem leftN_false (R : Value) : leftN R (.bool false) = 0 := by unfold leftN; split <;> simp_all

set_option maxRecDepth 100000 in
set_option maxHeartbeats 2000000 in
theorem parts1_in (F : Fence) (n : Nat) (h41 : F.fn 203) (h42 : F.fn 93) (hro : F.round = none) (hn : 1 ≤ n) (l Bs : Nat) (s : T) (hs : s.length ≤ 1000000) (m : Int) (J Jx : List T → World → Prop)
    (hcut : ∀ (R : T) (W : World), R.length ≤ 1000000 → MaxAt m W → CallsIn F (n - 1) Tryz.prog 93 #[.string ⟨R.toArray⟩, .string ⟨#[47]⟩] W fun e W' => e = .returned (.tuple #[.string ⟨(Lib.cut R [47]).1.toArray⟩, .string ⟨(Lib.cut R [47]).2.1.toArray⟩, .bool (Lib.cut R [47]).2.2]) ∧ ∃ n, W' = W.drewN n)
    (hJd : ∀ pre W q, J pre W → J pre (W.drewN q))
    (hY : ∀ pre x W, x.length ≤ 1000000 → J pre W → pre.length < (split s).length → YieldAt F (n - 1) Tryz.prog l #[tx x] W fun e W' =>
      (e = .returned (.bool true) ∧ J (pre ++ [x]) W' ∧ KeepsM m W W') ∨ (e = .returned (.bool false) ∧ Jx (pre ++ [x]) W'))
    (W : World) (hBs : W.cell? ⟨Bs, 0, none⟩ = some (.string ⟨s.toArray⟩)) (hm : MaxAt m W) (h0 : J [] W) :
    CallsIn F n Tryz.prog 203 #[.func (.yield l) #[] #[], .pointer (some ⟨Bs, 0, none⟩)] W fun e W' => (∃ v, e = .returned v) ∧
      ((∃ ys, ys = split s ∧ J ys W') ∨ (∃ pre, pre <+: split s ∧ Jx pre W')) := by
  refine callsIn_of_wp Tryz.func203 rfl h41 ?_ hro
  simp only [Tryz.ntmps203, List.size_toArray, List.length_cons, List.length_nil, Nat.reduceAdd, Nat.reduceSub, Array.replicate_succ, Array.replicate_zero, List.push_toArray, List.append_toArray, List.nil_append, List.cons_append]
  gi_wp2
  clear hBs
  gi_loopw [3, 4] (fun r mo wr => ∃ (pre : List T) (R : T), r = .string ⟨R.toArray⟩ ∧ R.length ≤ 1000000 ∧ J pre wr ∧ MaxAt m wr ∧ ((mo = .bool true ∧ split s = pre ++ split R) ∨ (mo = .bool false ∧ pre = split s)))
    (fun r mo _ => leftN r mo)
  case atStart => exact ⟨[], s, rfl, hs, h0, hm, .inl ⟨rfl, rfl⟩⟩
  case round =>
    obtain ⟨pre, R, rfl, hR, hJs, hmr, ⟨rfl, hsp⟩ | ⟨rfl, hsp⟩⟩ := hrel
    · have hc := hcut R wr hR hmr
      rcases first_slash R with h47 | ⟨x, r, hRe, hx⟩
      · rw [cut_no R h47] at hc
        have hpl : pre.length < (split s).length := by rw [hsp, split_none R h47]; simp
        have hend := Lib.hid (show pre ++ [R] = split s by rw [hsp, split_none R h47])
        have HSP := Lib.hid hsp
        clear hsp h47
        gi_wp2_with fail
        refine hc.mono ?_
        rintro e W1 ⟨rfl, q, rfl⟩
        have hmq : MaxAt m (wr.drewN q) := hmr
        obtain ⟨fn, tmps, assign, body, hy, hYR⟩ := hY pre R (wr.drewN q) hR (hJd _ _ _ hJs) hpl
        simp only [tx] at hy
        gi_wp2
        refine hYR.mono ?_
        rintro e W3 (⟨rfl, hJ3, hk3⟩ | ⟨rfl, hJx3⟩)
        · gi_wp2
          go_roundw
          case rel => exact ⟨pre ++ [R], [], rfl, by simp, hJ3, hk3 hmq, .inr ⟨rfl, hend.out⟩⟩
          case measure => show leftN _ (.bool false) < leftN (.string ⟨R.toArray⟩) (.bool true); rw [leftN_true, leftN_false]; omega
        · gi_wp2
          refine bodyPost_ret (results_none rfl _ _ _) rfl ?_
          exact ⟨⟨_, rfl⟩, .inr ⟨_, by rw [hend.out]; exact List.prefix_refl _, hJx3⟩⟩
      · have hRl : x.length + r.length + 1 = R.length := by rw [hRe]; simp; omega
        rw [hRe, cut_at x r hx] at hc
        have hsp' : split s = (pre ++ [x]) ++ split r := by rw [hsp, hRe, split_cons x r hx]; simp
        have hpl : pre.length < (split s).length := by rw [hsp']; simp
        have HSP := Lib.hid hsp'
        rw [← hRe] at hc
        clear hsp hsp' hRe
        gi_wp2_with fail
        refine hc.mono ?_
        rintro e W1 ⟨rfl, q, rfl⟩
        have hmq : MaxAt m (wr.drewN q) := hmr
        obtain ⟨fn, tmps, assign, body, hy, hYR⟩ := hY pre x (wr.drewN q) (by omega) (hJd _ _ _ hJs) hpl
        simp only [tx] at hy
        gi_wp2
        refine hYR.mono ?_
        rintro e W3 (⟨rfl, hJ3, hk3⟩ | ⟨rfl, hJx3⟩)
        · gi_wp2
          go_roundw
          case rel => exact ⟨pre ++ [x], r, rfl, by omega, hJ3, hk3 hmq, .inl ⟨rfl, HSP.out⟩⟩
          case measure => show leftN (.string ⟨r.toArray⟩) (.bool true) < leftN (.string ⟨R.toArray⟩) (.bool true); rw [leftN_true, leftN_true]; omega
        · gi_wp2
          refine bodyPost_ret (results_none rfl _ _ _) rfl ?_
          exact ⟨⟨_, rfl⟩, .inr ⟨_, by rw [HSP.out]; exact List.prefix_append _ _, hJx3⟩⟩
    · have HSP := Lib.hid hsp
      clear hsp
      gi_wp2
      go_end0
      exact ⟨⟨_, rfl⟩, .inl ⟨_, HSP.out, hJs⟩⟩

theorem cut_in (R : T) (hR : R.length ≤ 1000000) (m : Int) (W : World) (hm : MaxAt m W) (n : Nat) :
    CallsIn Fence.wide n Tryz.prog 93 #[.string ⟨R.toArray⟩, .string ⟨#[47]⟩] W fun e W' => e = .returned (.tuple #[.string ⟨(Lib.cut R [47]).1.toArray⟩, .string ⟨(Lib.cut R [47]).2.1.toArray⟩, .bool (Lib.cut R [47]).2.2]) ∧ ∃ n, W' = W.drewN n :=
  callsIn_wide.2 (Tryz.strings_Cut ⟨R.toArray⟩ ⟨#[47]⟩ m W (by rw [size_tx]; omega) hm)

set_option maxHeartbeats 1000000 in
theorem parts_in (F : Fence) (n : Nat) (h30 : F.fn 185) (hro : F.round = none) (s : ByteArray) (w : World) :
    CallsIn F n Tryz.prog 185 #[.string s] w fun e w' => e = .returned (.func (.func 203) #[] #[.pointer (some ⟨w.heap.size, 0, none⟩)]) ∧ w.alloc (.cells #[.string s] 9) = w' := by
  refine callsIn_of_wp Tryz.func185 rfl h30 ?_ hro
  simp only [Tryz.ntmps185, List.size_toArray, List.length_cons, List.length_nil, Nat.reduceAdd, Nat.reduceSub, Array.replicate_succ, Array.replicate_zero, List.push_toArray, List.append_toArray, List.nil_append, List.cons_append]
  gi_wp2
  go_ret
  exact ⟨rfl, rfl⟩

/-- A piece of a size that can be borne. -/
abbrev Piece := { x : T // x.length ≤ 1000000 }

def texts (ps : List Piece) : List T := ps.map (·.1)

theorem texts_snoc (ps : List Piece) (x : Piece) : texts (ps ++ [x]) = texts ps ++ [x.1] := by simp [texts]

theorem grown_drewN (W : World) (q : Nat) : W.grownBy (W.drewN q) none := ⟨rfl, rfl, rfl, Nat.le_refl _, fun _ _ _ => rfl⟩

theorem parts_stops (n : Nat) (hn : 1 ≤ n) (Bs : Nat) (s : T) (hs : s.length ≤ 1000000) (m : Int) (w : World) (hm : MaxAt m w) (hb : w.cell? ⟨Bs, 0, none⟩ = some (.string ⟨s.toArray⟩)) :
    SeqStopsK Fence.wide n Tryz.prog 203 #[.pointer (some ⟨Bs, 0, none⟩)] (fun x : Piece => #[tx x.1]) (KeepsM m) (fun ys => texts ys = split s) (fun pre => texts pre <+: split s) (split s).length w := by
  intro l J Jx W hW hA _ hY h0
  refine (parts1_in Fence.wide n trivial trivial rfl hn l Bs s hs m (fun ps W => ∃ qs, texts qs = ps ∧ J qs W) (fun ps W => ∃ qs, texts qs = ps ∧ Jx qs W) (fun R W' hR hm' => cut_in R hR m W' hm' _) ?_ ?_ W
    ((hW.cell (p := ⟨Bs, 0, none⟩) (World.block_lt_of_cell? _ _ hb)).trans hb) (hm.later hW) ⟨[], rfl, h0⟩).mono ?_
  · rintro pre W1 q ⟨qs, rfl, hJ⟩
    exact ⟨qs, rfl, hA qs W1 _ none hJ (grown_drewN W1 q) (fun r e => by cases e)⟩
  · rintro pre x W1 hx ⟨qs, rfl, hJ⟩ hlt
    obtain ⟨fn, tmps, assign, body, hy, hR⟩ := hY qs ⟨x, hx⟩ W1 hJ (by simpa [texts] using hlt)
    refine ⟨fn, tmps, assign, body, hy, hR.mono ?_⟩
    rintro e W' (⟨rfl, hJ', hk⟩ | ⟨rfl, hJ'⟩)
    · exact .inl ⟨rfl, ⟨_, texts_snoc _ _, hJ'⟩, hk⟩
    · exact .inr ⟨rfl, _, texts_snoc _ _, hJ'⟩
  · rintro e W' ⟨he, ⟨ys, rfl, qs, hq, hJ⟩ | ⟨pre, hp, qs, rfl, hJ⟩⟩
    · exact ⟨he, .inl ⟨qs, hq, hJ⟩⟩
    · exact ⟨he, .inr ⟨qs, hp, hJ⟩⟩

/-- slices.Clone of a slice of texts. -/
theorem clones_any (v : Value) (l : List T) (hl : l.length ≤ 100000) (w : World) (h : Strs w v l) :
    Calls Tryz.prog 183 #[v] w fun e w' => ∃ v', e = .returned v' ∧ w'.ownsRow w.heap.size 9 1 v' l.length (l.map tx) ∧ Below w.heap.size w w' := by
  obtain ⟨a, c, rfl, h1, h2, h3, h4⟩ := h
  by_cases hn : l = []
  · subst hn
    cases a with
    | none =>
      refine (Tryz.slices_Clone_string_nil 0 c w).mono ?_
      rintro e w' ⟨rfl, rfl⟩
      exact ⟨_, rfl, ⟨rfl, .inl ⟨rfl, rfl⟩⟩, Below.refl _ _⟩
    | some x =>
      refine (Tryz.slices_Clone_string_zero x c w).mono ?_
      rintro e w' ⟨v', rfl, ho, _, hb⟩
      exact ⟨_, rfl, ho, hb⟩
  · obtain ⟨b, off, rfl, hc⟩ := h4 hn
    refine (Tryz.slices_Clone_string b off l.length c (l.map fun t => ⟨t.toArray⟩) w (by simp) (by omega) (fun j hj => ?_)).mono ?_
    · have hj' : j < l.length := by simpa using hj
      rw [hc j hj']
      simp [List.getD, hj']
    · rintro e w' ⟨v', rfl, ho, _, hb⟩
      refine ⟨_, rfl, ?_, hb⟩
      rw [List.take_of_length_le (by simp), List.map_map] at ho
      exact ho



attribute [local go_sem] Oper.semAt_some

theorem enc_len (l : T) : (enc l).length ≤ 3 * l.length := Pct.encode_len 3 l

/-- The box holds a slice that owns these texts. -/
def Has (B Bo : Nat) (l : List T) (W : World) : Prop := ∃ u, Boxed W Bo 25 u ∧ W.ownsRow B 9 1 u l.length (l.map tx) ∧ True

set_option maxRecDepth 100000 in
set_option maxHeartbeats 4000000 in
theorem merge_in (a : Option Addr) (c : Nat) (L : List T) (hL : L.length ≤ 9000) (hs : ∀ t ∈ L, t.length ≤ 1000000) (s : ByteArray) (hss : s.size ≤ 30000) (m : Int) (w : World) (hm : MaxAt m w) (hv0 : Strs w (.slice a L.length c) L) :
    CallsIn Fence.wide 5 Tryz.prog 158 #[.slice a L.length c, .string s] w fun e W' => ∃ v', e = .returned v' ∧ Strs W' v' (merge L s.data.toList) ∧ Below w.heap.size w W' ∧ New w.heap.size v' := by
  obtain ⟨i0, hi, hz0, hz1, hz2⟩ := info_parts infoText
  have hv0' := hv0
  obtain ⟨a', c', e', k1, k2, k3, k4⟩ := hv0'
  cases e'
  have hahead : Strs w (.slice a (L.length - 1) c) L.dropLast := by
    refine ⟨a, c, by simp, by simp; omega, k2, k3, fun hne => ?_⟩
    obtain ⟨b, off, rfl, hc⟩ := k4 (fun e => hne (by rw [e]; rfl))
    refine ⟨b, off, rfl, fun j hj => ?_⟩
    have hj' : j < L.length := by simp at hj; omega
    rw [hc j hj', List.getElem_dropLast]
  have hH := Lib.hid k4
  have K3 := Lib.hid k3
  clear k4 k3
  refine callsIn_of_wp_marks Tryz.func158 rfl trivial ?_ rfl
  simp only [Tryz.ntmps158, List.size_toArray, List.length_cons, List.length_nil, Nat.reduceAdd, Nat.reduceSub, Array.replicate_succ, Array.replicate_zero, List.push_toArray, List.append_toArray, List.nil_append, List.cons_append]
  gi_wp2_with fail
  refine ⟨trivial, (callsIn_wide.2 (ahead_any a L.length c k1 k2 K3.out w)).mono ?_⟩
  rintro e w0 ⟨rfl, rfl⟩
  gi_wp2_with fail
  refine ⟨trivial, (callsIn_wide.2 (clones_any _ L.dropLast (by simp; omega) w hahead)).mono ?_⟩
  rintro e w1 ⟨v1, rfl, hrow1, hB1⟩
  obtain ⟨a1, c1, rfl, _, _, _⟩ := owns_shape hrow1
  gi_wp2_with fail
  refine ⟨trivial, (callsIn_wide.2 (Tryz.strings_TrimPrefix s ⟨#[47]⟩ _)).mono ?_⟩
  rintro e w2 ⟨rfl, rfl⟩
  rw [show (⟨#[47]⟩ : ByteArray).data.toList = [47] from rfl, strip_prefix]
  have hstl : (strip s.data.toList).length ≤ 30000 := by have := strip_len s.data.toList; have h : s.data.toList.length = s.size := rfl; omega
  gi_wp2_with fail
  refine ⟨trivial, (callsIn_wide.2 (Pct.encode_any ⟨(strip s.data.toList).toArray⟩ (by rw [size_tx]; omega) 3 _)).mono ?_⟩
  rintro e w3 ⟨rfl, hB3⟩
  rw [show (⟨(Pct.encode 3 (⟨(strip s.data.toList).toArray⟩ : ByteArray).data.toList).toArray⟩ : ByteArray) = ⟨(enc (strip s.data.toList)).toArray⟩ from rfl]
  have henl := enc_len (strip s.data.toList)
  have hspl := split_len (enc (strip s.data.toList))
  have hsum := split_sum (enc (strip s.data.toList))
  gi_wp2_with fail
  refine ⟨trivial, (parts_in Fence.wide _ trivial rfl ⟨(enc (strip s.data.toList)).toArray⟩ w3).mono ?_⟩
  rintro e w4 ⟨rfl, rfl⟩
  gi_wp2_with fail
  have bO1 := Boxed.new w1 25 (.slice a1 (L.length - 1) c1)
  have hrow3 := owns_below (hrow1.alloc (.cells #[.slice a1 (L.length - 1) c1] 25)) hB3
  have bO := (boxed_below bO1 hB3).alloc (.cells #[.string ⟨(enc (strip s.data.toList)).toArray⟩] 9)
  have bS := Boxed.new w3 9 (.string ⟨(enc (strip s.data.toList)).toArray⟩)
  have hsz1 := hB1.size
  have hsz3 := hB3.size
  have hlt1 := bO1.lt
  have hb3 : Below w.heap.size w w3 := (hB1.alloc hsz1 _).trans (hB3.mono (by simp; omega))
  have hsz3' := hb3.size
  have hB4 : Below w.heap.size w (w3.alloc (.cells #[.string ⟨(enc (strip s.data.toList)).toArray⟩] 9)) := hb3.alloc hsz3' _
  have hseg : split (enc (strip s.data.toList)) = segs s.data.toList := rfl
  generalize hE : enc (strip s.data.toList) = E at *
  have hcount : (split E).length ≤ 90001 := by omega
  have hEl : E.length ≤ 1000000 := by omega
  have hrow0 : (w3.alloc (.cells #[.string ⟨E.toArray⟩] 9)).ownsRow w.heap.size 9 1 (.slice a1 (L.length - 1) c1) L.dropLast.length (L.dropLast.map tx) := by
    have h : L.dropLast.length = L.length - 1 := by simp
    have h2 := hrow3.alloc (.cells #[.string ⟨E.toArray⟩] 9)
    rw [h] at h2 ⊢
    exact h2
  clear hE
  refine wpIn_rangeFunc_ownG rfl (by omega) (gf := 203) (lb := #[.pointer (some ⟨w3.heap.size, 0, none⟩)]) rfl trivial (enters_of Tryz.func203 (by kernel_rfl) rfl)
    (parts_stops 4 (by omega) w3.heap.size E hEl m _ (hm.later hB4) bS.cell) keepsM_t keepsM_b (Below.refl _ _) (fun _ => rfl)
    (fun pre W => Has w.heap.size w1.heap.size (L.dropLast ++ texts pre) W ∧ Below w.heap.size w W)
    (fun _ _ _ => False)
    (OwnFrom.and (Own.from (holdsRow_own w.heap.size w1.heap.size 25 9 1 (fun pre => (L.dropLast ++ texts pre).length) (fun pre => (L.dropLast ++ texts pre).map tx) (fun _ _ => True)) _) (ownFrom_below (Nat.le_refl _) (by simp; omega)))
    (fun _ _ _ _ _ hs _ _ => hs)
    ⟨by rw [show L.dropLast ++ texts [] = L.dropLast by simp [texts]]; exact ⟨_, bO, hrow0, trivial⟩, hB4⟩
    (fun x => { tmps := #[.slice a L.length c, .string s, undef, undef, .slice none 0 0, .pointer (some ⟨w1.heap.size, 0, none⟩), .string ⟨x.1.toArray⟩, .slice a L.length c, .slice a (L.length - 1) c, .slice a1 (L.length - 1) c1, .string s, .string ⟨(strip s.data.toList).toArray⟩, .string ⟨E.toArray⟩, .func (.func 203) #[] #[.pointer (some ⟨w3.heap.size, 0, none⟩)], .string ⟨x.1.toArray⟩, undef, undef, undef, undef, undef, undef], defers := [] }) ?assign ?body ?done ?stop
  case assign =>
    intro l x W K hK
    gi_wp2
    exact hK
  case body =>
    rintro l pre ⟨x, hx⟩ W ⟨⟨u, hv, hrow, _⟩, hB⟩ hlt
    have hstep : (L.dropLast ++ texts (pre ++ [⟨x, hx⟩])).map tx = (L.dropLast ++ texts pre).map tx ++ [.string ⟨x.toArray⟩] := by rw [texts_snoc]; simp [tx]
    have hstepl : (L.dropLast ++ texts (pre ++ [⟨x, hx⟩])).length = (L.dropLast ++ texts pre).length + 1 := by rw [texts_snoc]; simp; omega
    have hpl : (texts pre).length = pre.length := by simp [texts]
    have hlen : (L.dropLast ++ texts pre).length ≤ 100000 := by rw [List.length_append, hpl]; simp; omega
    have HS := Lib.hid hstep
    have HL := Lib.hid hstepl
    clear hstep hstepl hpl
    generalize (L.dropLast ++ texts pre).map tx = xs at hrow HS
    generalize (L.dropLast ++ texts pre).length = n at hrow HL hlen
    have hc := hv.cell
    have hBs := hB.size
    gi_wp2_with (gi_at_builtin; refine wpListIn_append_own _ rfl _ _ 25 rfl w.heap.size 9 i0 (.string ⟨#[]⟩) 1 16 Tryz.underlying25 hi hz0 hz1 hz2 rfl (by decide) _ _ _ rfl (hrow.alloc _) ⟨W.heap.size, 0, none⟩ 1 1 [.string ⟨x.toArray⟩] rfl rfl (cell_one_new _ _ _) (by simp [Value.oneCell']) (by unfold maxLen; omega) (by omega) (by simp; omega) ?_; intro v' w2 hown' hgrow _; obtain ⟨g', cap', rfl⟩ := ownsRow_succ hown'; obtain ⟨hv1, hv2, hr2, hk2, hbe⟩ := hv.appended (by decide) hrow hBs hsz1 hown' hgrow; have hc1 := hv1.cell; have hf1 := hv1.frozen)
    have hBe := hB.trans hbe
    exact ⟨hk2.from _, fun _ => hm.later hBe, ⟨_, hv2, by rw [HS.out, HL.out]; exact hr2, trivial⟩, hBe⟩
  case done =>
    rintro D ys W hD hys ⟨⟨v, hv, hrow, _⟩, hB⟩ hK
    have hc := hv.cell
    rw [hys] at hrow
    have hst := owns_strs hrow
    have hmW := hm.later hB
    have hle : (L.dropLast ++ split E).length ≤ 100000 := by rw [List.length_append]; simp; omega
    have hts : ∀ t ∈ L.dropLast ++ split E, t.length ≤ 1000000 := fun t ht => by
      rcases List.mem_append.1 ht with h | h
      · exact hs t (List.dropLast_subset _ h)
      · have := hsum t h; omega
    gi_wp2_with fail
    refine ⟨trivial, (callsIn_wide.2 (norm_new v (L.dropLast ++ split E) hle hts m W hmW hst)).mono ?_⟩
    rintro e W5 ⟨v5, rfl, hst5, hB5, hn5⟩
    have hK5 : W5.heap[D]? = some (.deferred (some [])) := (hB5.block D (Array.getElem?_eq_some_iff.1 hK).1).trans hK
    have hbe : Below w.heap.size w W5 := hB.trans (hB5.mono hB.size)
    rw [hseg] at hst5
    gi_wp2
    refine ⟨by simp, .inl ⟨_, _, rfl, run_takeDeferred hK5, ?_⟩⟩
    exact ⟨_, results_tmp rfl _ _ _, v5, rfl, strs_kept hst5 (fun p u x => cell_kept x (grownBy_putObj' W5 D _) (fun r e => by cases e; exact ⟨_, hK5, rfl⟩)), hbe.trans (belowK_b (w := w) (Nat.le_refl _) W5 D _ _ (by simp at hD; omega) hK5 rfl rfl), hn5.mono hB.size⟩
  case stop =>
    rintro D c pre W _ _ h _
    exact h.elim

theorem merge_any (v : Value) (L : List T) (hL : L.length ≤ 9000) (hs : ∀ t ∈ L, t.length ≤ 1000000) (s : ByteArray) (hss : s.size ≤ 30000) (m : Int) (w : World) (hm : MaxAt m w) (h : Strs w v L) :
    Calls Tryz.prog 158 #[v, .string s] w fun e W' => ∃ v', e = .returned v' ∧ Strs W' v' (merge L s.data.toList) ∧ Below w.heap.size w W' := by
  have h' := h
  obtain ⟨a, c, rfl, _⟩ := h'
  exact (callsIn_wide.1 (merge_in a c L hL hs s hss m w hm h)).mono fun e W' ⟨v', he, hr, hb, _⟩ => ⟨v', he, hr, hb⟩

theorem merge_new (v : Value) (L : List T) (hL : L.length ≤ 9000) (hs : ∀ t ∈ L, t.length ≤ 1000000) (s : ByteArray) (hss : s.size ≤ 30000) (m : Int) (w : World) (hm : MaxAt m w) (h : Strs w v L) :
    Calls Tryz.prog 158 #[v, .string s] w fun e W' => ∃ v', e = .returned v' ∧ Strs W' v' (merge L s.data.toList) ∧ Below w.heap.size w W' ∧ New w.heap.size v' := by
  have h' := h
  obtain ⟨a, c, rfl, _⟩ := h'
  exact callsIn_wide.1 (merge_in a c L hL hs s hss m w hm h)

theorem parse_new (s : ByteArray) (hss : s.size ≤ 30000) (m : Int) (w : World) (hm : MaxAt m w) :
    Calls Tryz.prog 128 #[.string s] w fun e W' => ∃ v', e = .returned v' ∧ Strs W' v' (parse s.data.toList) ∧ Below w.heap.size w W' ∧ New w.heap.size v' := by
  go_enter Tryz.func128, Tryz.ntmps128
  go_wp2_with fail
  refine (merge_new (.slice none 0 0) [] (by simp) (by simp) s hss m w hm (Strs.nil w)).mono ?_
  rintro e w1 ⟨v', rfl, hst, hB, hN⟩
  go_wp2
  go_ret
  exact ⟨v', rfl, hst, hB, hN⟩

theorem parse_any (s : ByteArray) (hss : s.size ≤ 30000) (m : Int) (w : World) (hm : MaxAt m w) :
    Calls Tryz.prog 128 #[.string s] w fun e W' => ∃ v', e = .returned v' ∧ Strs W' v' (parse s.data.toList) ∧ Below w.heap.size w W' := by
  go_enter Tryz.func128, Tryz.ntmps128
  go_wp2_with fail
  refine (merge_any (.slice none 0 0) [] (by simp) (by simp) s hss m w hm (Strs.nil w)).mono ?_
  rintro e w1 ⟨v', rfl, hst, hB⟩
  go_wp2
  go_ret
  exact ⟨v', rfl, hst, hB⟩




theorem show_len (L : List T) (hs : ∀ t ∈ L, t.length ≤ 1000000) : (show1 L).length ≤ L.length * 1000001 := by
  induction L with
  | nil => simp [show1]
  | cons s r ih =>
    have h1 := hs s (by simp)
    have h2 := ih (fun t ht => hs t (by simp [ht]))
    simp [show1]
    omega

theorem show_take (L : List T) (k : Nat) (h : k < L.length) : show1 (L.take (k + 1)) = show1 (L.take k) ++ 47 :: L[k] := by
  rw [List.take_succ_eq_append_getElem h, show_snoc]

set_option maxRecDepth 100000 in
set_option maxHeartbeats 2000000 in
theorem may_any (v : Value) (L : List T) (hL : L.length ≤ 100000) (hs : ∀ t ∈ L, t.length ≤ 1000000) (m : Int) (w : World) (hm : MaxAt m w) (h : Strs w v L) :
    Calls Tryz.prog 84 #[v] w fun e w' => e = .returned (.bool (mayP L)) ∧ Below w.heap.size w w' := by
  obtain ⟨a, c, rfl, h1, h2, h3, h4⟩ := h
  unfold maxLen at h2
  have H4 := Lib.hid h4
  clear h3 h4
  go_enter Tryz.func84, Tryz.ntmps84
  go_wp2
  go_loopw [7] (fun i wr => ∃ k : Nat, k ≤ L.length ∧ i = .int .i64 k ∧ (∀ j (hj : j < L.length), j < k → okT L[j] = true) ∧ Below w.heap.size w wr) (fun i _ => L.length - (intOf i).toNat)
  case atStart => exact ⟨0, Nat.zero_le _, rfl, fun _ _ h => absurd h (by omega), Below.refl _ _⟩
  case round =>
    obtain ⟨k, hk, rfl, hall, hB⟩ := hrel
    have HA := Lib.hid hall
    clear hall
    by_cases hlt : k < L.length
    · obtain ⟨b, off, rfl, hcell⟩ := H4.out (by intro e; rw [e] at hlt; simp at hlt)
      have g : wr.cell? ⟨b, off + k, none⟩ = some (.string ⟨(L[k]).toArray⟩) := (hB.cell (p := ⟨b, off + k, none⟩) (World.block_lt_of_cell? _ _ (hcell k hlt))).trans (hcell k hlt)
      have hkc : k < c := by omega
      have hts := hs _ (List.getElem_mem hlt)
      have hno : okT L[k] = false → mayP L = false := fun e => by
        cases e' : mayP L
        · rfl
        · have := ((mayP_iff L).1 e').1 _ (List.getElem_mem hlt)
          rw [e] at this; cases this
      have hyes : okT L[k] = true → ∀ j (hj : j < L.length), j < k + 1 → okT L[j] = true := fun e j hj hjk => by
        rcases Nat.lt_or_ge j k with h | h
        · exact HA.out j hj h
        · obtain rfl : j = k := by omega
          exact e
      have HNO := Lib.hid hno
      have HYES := Lib.hid hyes
      obtain ⟨t, ht⟩ : ∃ t, L[k] = t := ⟨_, rfl⟩
      rw [ht] at g hts HNO HYES
      clear hcell ht hno hyes
      have hmr := hm.later hB
      cases hr : Pct.readyB 3 t
      · have hr' := Lib.hid hr
        have hf : okT t = false := by unfold okT; rw [hr]; rfl
        have HF := Lib.hid (HNO.out hf)
        clear hr hf
        go_wp2_with fail
        refine (Pct.ready_at ⟨t.toArray⟩ (by rw [size_tx]; unfold maxLen; omega) 3 false hr'.out hB).mono ?_
        rintro e w1 ⟨rfl, hB1⟩
        go_wp2
        go_ret
        exact ⟨by rw [HF.out]; rfl, hB1⟩
      · have hr' := Lib.hid hr
        have hcon : decide (0 ≤ Lib.indexByte t 47) = t.contains 47 := Pct.idx_mem t 47
        cases hc : t.contains 47
        · rw [hc] at hcon
          cases hd : decide (dotsN t = 0)
          · have hd' := Lib.hid (of_decide_eq_false hd)
            have hf : okT t = false := by
              cases e : okT t
              · rfl
              · exact absurd ((okT_iff t).1 e).2.2 (of_decide_eq_false hd)
            have HF := Lib.hid (HNO.out hf)
            have q1 : (((dotsN t : Nat) : Int) != 0) = true := by
              have := of_decide_eq_false hd
              simp
              omega
            have HC := Lib.hid hcon
            clear hr hf hd hc hcon
            go_wp2_with fail
            refine (Pct.ready_at ⟨t.toArray⟩ (by rw [size_tx]; unfold maxLen; omega) 3 true hr'.out hB).mono ?_
            rintro e w1 ⟨rfl, hB1⟩
            go_wp2_with fail
            refine (Tryz.strings_Contains_one ⟨t.toArray⟩ 47 w1).mono ?_
            rintro e w1' ⟨rfl, rfl⟩
            rw [show (⟨t.toArray⟩ : ByteArray).data.toList = t from rfl, HC.out]
            go_wp2_with fail
            refine (dots_any ⟨t.toArray⟩ hts m _ (hm.later hB1)).mono ?_
            rintro e w2 ⟨rfl, hB2⟩
            rw [show (⟨t.toArray⟩ : ByteArray).data.toList = t from rfl]
            go_wp2
            go_ret
            exact ⟨by rw [HF.out]; rfl, hB1.trans (hB2.mono hB1.size)⟩
          · have hd' := of_decide_eq_true hd
            have ho : okT t = true := (okT_iff t).2 ⟨hr, by simpa using hc, hd'⟩
            have HO := Lib.hid (HYES.out ho)
            have HD := dots_at t hts 0 (by rw [hd']; rfl) m
            have HC := Lib.hid hcon
            clear hr ho hd hd' hc hcon
            go_wp2_with fail
            refine (Pct.ready_at ⟨t.toArray⟩ (by rw [size_tx]; unfold maxLen; omega) 3 true hr'.out hB).mono ?_
            rintro e w1 ⟨rfl, hB1⟩
            go_wp2_with fail
            refine (Tryz.strings_Contains_one ⟨t.toArray⟩ 47 w1).mono ?_
            rintro e w1' ⟨rfl, rfl⟩
            rw [show (⟨t.toArray⟩ : ByteArray).data.toList = t from rfl, HC.out]
            go_wp2_with fail
            refine (HD _ (hm.later hB1)).mono ?_
            rintro e w2 ⟨rfl, hB2⟩
            go_wp2
            go_roundw
            case rel => exact ⟨k + 1, by omega, by go_num, HO.out, hB1.trans (hB2.mono hB1.size)⟩
            case measure => simp [intOf]; omega
        · rw [hc] at hcon
          have hf : okT t = false := by
            cases e : okT t
            · rfl
            · have := ((okT_iff t).1 e).2.1
              simp at hc
              exact absurd hc this
          have HF := Lib.hid (HNO.out hf)
          have HC := Lib.hid hcon
          clear hr hf hc hcon
          go_wp2_with fail
          refine (Pct.ready_at ⟨t.toArray⟩ (by rw [size_tx]; unfold maxLen; omega) 3 true hr'.out hB).mono ?_
          rintro e w1 ⟨rfl, hB1⟩
          go_wp2_with fail
          refine (Tryz.strings_Contains_one ⟨t.toArray⟩ 47 w1).mono ?_
          rintro e w1' ⟨rfl, rfl⟩
          rw [show (⟨t.toArray⟩ : ByteArray).data.toList = t from rfl, HC.out]
          go_wp2
          go_ret
          exact ⟨by rw [HF.out]; rfl, hB1⟩
    · obtain rfl : k = L.length := by omega
      have hf : mayP L = decide (0 < L.length) := by
        rw [Bool.eq_iff_iff, mayP_iff, decide_eq_true_iff]
        constructor
        · rintro ⟨_, h⟩; exact List.length_pos_iff.2 h
        · intro h
          refine ⟨fun t ht => ?_, List.length_pos_iff.1 h⟩
          obtain ⟨j, hj, rfl⟩ := List.getElem_of_mem ht
          exact HA.out j hj hj
      have HF := Lib.hid hf
      clear hf
      go_wp2
      go_ret
      exact ⟨by rw [HF.out]; rfl, hB⟩

/-! ### How long what is shown is -/

theorem show_append (a b : List T) : show1 (a ++ b) = show1 a ++ show1 b := by
  induction a with
  | nil => rfl
  | cons s r ih => rw [List.cons_append, show1, ih, show1]; simp

theorem show_drop (a : List T) : (show1 a.dropLast).length ≤ (show1 a).length := by
  rcases List.eq_nil_or_concat a with rfl | ⟨r, x, rfl⟩
  · simp
  · rw [List.concat_eq_append, List.dropLast_concat, show_append]; simp

theorem step_show (out : List T) (last : Bool) (s : T) : (show1 (step out last s)).length ≤ (show1 out).length + 1 + s.length := by
  have h1 := show_drop out
  have h2 : show1 [[]] = [47] := rfl
  unfold step
  split
  · rw [show_append]; simp [show1]; omega
  · split
    · split
      · rw [show_append, h2, List.length_append, List.length_singleton]; omega
      · omega
    · split
      · rw [show_append, h2, List.length_append, List.length_singleton]; omega
      · omega

theorem norm_show (out L : List T) : (show1 (norm out L)).length ≤ (show1 out).length + (show1 L).length := by
  induction L generalizing out with
  | nil => rw [norm_nil]; omega
  | cons s r ih =>
    by_cases hr : r = []
    · subst hr
      rw [norm_one]
      have := step_show out true s
      simp [show1]
      omega
    · rw [norm_cons out s r hr]
      have h1 := ih (step out false s)
      have h2 := step_show out false s
      simp [show1]
      omega

theorem split_show_len (l : T) : (show1 (split l)).length = l.length + 1 := by
  induction l with
  | nil => rfl
  | cons c r ih =>
    unfold split
    split
    · rw [show1]; simp [ih]
    · split
      · rename_i e; exact absurd e (split_ne r)
      · rename_i h t e
        rw [e] at ih
        simp [show1] at ih ⊢
        omega

theorem parse_show_len (s : T) : (show1 (parse s)).length ≤ 3 * s.length + 1 := by
  have h1 := norm_show [] (segs s)
  have h2 := split_show_len (enc (strip s))
  have h3 : (enc (strip s)).length ≤ 3 * (strip s).length := Pct.encode_len 3 _
  have h4 := strip_len s
  have h5 : show1 [] = [] := rfl
  unfold parse
  rw [h5] at h1
  unfold segs at h1 ⊢
  simp at h1
  omega

theorem show_each (L : List T) : ∀ t ∈ L, t.length ≤ (show1 L).length := by
  induction L with
  | nil => simp
  | cons s r ih =>
    intro t ht
    rcases List.mem_cons.1 ht with rfl | ht
    · simp [show1]; omega
    · have := ih t ht; simp [show1]; omega

theorem show_count (L : List T) : L.length ≤ (show1 L).length := by
  induction L with
  | nil => simp
  | cons s r ih => simp [show1]; omega

theorem few_show (L : List T) (h : fewB L = true) : (show1 L).length ≤ 18060 := by
  obtain ⟨h1, h2⟩ := (few_iff L).1 h
  have key : ∀ L : List T, (∀ t ∈ L, t.length ≤ 300) → (show1 L).length ≤ L.length * 301 := by
    intro L hL
    induction L with
    | nil => simp [show1]
    | cons s r ih =>
      have h1 := hL s (by simp)
      have h2 := ih (fun t ht => hL t (by simp [ht]))
      simp [show1]
      omega
  have := key L h2
  omega




theorem ex_parse1 : parse [47, 97, 47, 46, 47, 98, 47, 46, 46, 47, 99] = [[97], [99]] := by decide +kernel

theorem ex_parse2 : parse [47, 97, 47, 46, 46] = [[]] := by decide +kernel

theorem ex_merge : merge [[97], [99]] [100] = [[97], [100]] := by decide +kernel

theorem ex_show : show1 [[97], [99]] = [47, 97, 47, 99] := by decide +kernel

theorem ex_may : mayP [[97], [99]] = true := by decide +kernel

theorem ex_norm : norm [] [[46], [97]] = [[97]] := by decide +kernel

theorem ex_dots : dotsN [37, 50, 69, 46] = 2 := by decide +kernel

end Go.Proofs.YtlkikfdbjpjpaaaGreatDoor.Path
