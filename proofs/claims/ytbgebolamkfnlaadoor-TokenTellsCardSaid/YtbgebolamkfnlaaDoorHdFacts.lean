/-
  Layer 13, plain: what a field's name and a field's value are, what a line tells, lines, lists of fields. Functions of lists of bytes; nothing of the program.
-/
import Derived.Lib.SlTrimSet
import Derived.Lib.IndexAny
import Derived.Lib.IndexMore
import Derived.Lib.Join
import Derived.Test.YtbgebolamkfnlaaDoorAscii
import Derived.Test.YtbgebolamkfnlaaDoorUCut
namespace Go.Proofs.YtbgebolamkfnlaaDoor.Head
set_option linter.unusedSimpArgs false
set_option linter.unusedVariables false
set_option maxRecDepth 100000


open Url


/-- A field: its name and its value. -/
abbrev F := T × T

def signs : T := [33, 35, 36, 37, 38, 39, 42, 43, 45, 46, 94, 95, 96, 124, 126]

def inN (c : UInt8) : Bool := Ascii.alphaB c.toNat || Ascii.digitB c.toNat || signs.contains c

def nameB (s : T) : Bool := s.all inN && decide (s ≠ [])

def blanks : T := [32, 9]

def bads : T := [0, 10, 13]

def blankB (c : UInt8) : Bool := blanks.contains c

def trimB (s : T) : T := Lib.trimS s blanks

def valB (s : T) : Bool := (!s.any bads.contains) && decide (trimB s = s)

def fieldO (s : T) : Option F :=
  if s.contains 58 && nameB (bef 58 s) && valB (trimB (aft 58 s)) then some (bef 58 s, trimB (aft 58 s)) else none

/-! ### What stands at both ends -/

theorem trim_def (s : T) : trimB s = (s.reverse.dropWhile blankB).reverse.dropWhile blankB := rfl

theorem dw_all (p : UInt8 → Bool) (l : T) : l.dropWhile p = [] ∨ ∃ c r, l.dropWhile p = c :: r ∧ p c = false := by
  induction l with
  | nil => exact .inl rfl
  | cons a l ih =>
    cases h : p a
    · rw [List.dropWhile_cons_of_neg (by simp [h])]; exact .inr ⟨a, l, rfl, h⟩
    · rw [List.dropWhile_cons_of_pos (by simp [h])]; exact ih

theorem dw_stop (p : UInt8 → Bool) (c : UInt8) (r : T) (h : p c = false) : (c :: r).dropWhile p = c :: r := by
  rw [List.dropWhile_cons_of_neg (by simp [h])]

theorem dw_skip (p : UInt8 → Bool) (c : UInt8) (r : T) (h : p c = true) : (c :: r).dropWhile p = r.dropWhile p := by
  rw [List.dropWhile_cons_of_pos (by simp [h])]

/-- It begins by no blank. -/
def Fr (s : T) : Prop := s = [] ∨ ∃ c r, s = c :: r ∧ blankB c = false

/-- It ends by no blank. -/
def Bk (s : T) : Prop := s = [] ∨ ∃ r c, s = r ++ [c] ∧ blankB c = false

theorem bk_rev (s : T) : Bk s ↔ Fr s.reverse := by
  constructor
  · rintro (rfl | ⟨r, c, rfl, h⟩)
    · exact .inl rfl
    · exact .inr ⟨c, r.reverse, by simp, h⟩
  · rintro (h | ⟨c, r, h, hc⟩)
    · exact .inl (by simpa using h)
    · exact .inr ⟨r.reverse, c, by rw [← List.reverse_reverse s, h]; simp, hc⟩

theorem fr_same {s : T} (h : Fr s) : s.dropWhile blankB = s := by
  rcases h with rfl | ⟨c, r, rfl, h⟩
  · rfl
  · exact dw_stop _ _ _ h

theorem fr_dw (s : T) : Fr (s.dropWhile blankB) := by
  rcases dw_all blankB s with h | ⟨c, r, h, hc⟩
  · exact .inl h
  · exact .inr ⟨c, r, h, hc⟩

theorem bk_dw (s : T) : Bk (s.reverse.dropWhile blankB).reverse := by
  rw [bk_rev, List.reverse_reverse]; exact fr_dw _

theorem bk_suffix {s t : T} (h : Bk s) (ht : t <:+ s) : Bk t := by
  obtain ⟨p, rfl⟩ := ht
  rcases h with h | ⟨r, c, h, hc⟩
  · exact .inl (by simp at h; exact h.2)
  · rcases List.eq_nil_or_concat t with rfl | ⟨t', d, rfl⟩
    · exact .inl rfl
    · refine .inr ⟨t', d, by simp, ?_⟩
      have : (p ++ t') ++ [d] = r ++ [c] := by rw [← h]; simp
      have := List.append_inj' this rfl
      have h2 : d = c := by simpa using this.2
      rw [h2]; exact hc

theorem trim_ends (s : T) : Fr (trimB s) ∧ Bk (trimB s) := by
  rw [trim_def]
  exact ⟨fr_dw _, bk_suffix (bk_dw s) (List.dropWhile_suffix _)⟩

theorem trim_same {s : T} (h1 : Fr s) (h2 : Bk s) : trimB s = s := by
  rw [trim_def, fr_same ((bk_rev s).1 h2), List.reverse_reverse, fr_same h1]

theorem trim_twice (s : T) : trimB (trimB s) = trimB s := trim_same (trim_ends s).1 (trim_ends s).2

theorem trim_iff (s : T) : trimB s = s ↔ Fr s ∧ Bk s := ⟨fun h => by rw [← h]; exact trim_ends s, fun h => trim_same h.1 h.2⟩

theorem trim_len (s : T) : (trimB s).length ≤ s.length := by
  rw [trim_def]
  have h1 := (List.dropWhile_suffix blankB (l := (s.reverse.dropWhile blankB).reverse)).length_le
  have h2 := (List.dropWhile_suffix blankB (l := s.reverse)).length_le
  simp at h1 h2
  omega

theorem trim_sub (s : T) : ∀ x ∈ trimB s, x ∈ s := by
  intro x hx
  rw [trim_def] at hx
  have h1 := (List.dropWhile_suffix blankB).subset hx
  rw [List.mem_reverse] at h1
  have h2 := (List.dropWhile_suffix blankB).subset h1
  simpa using h2

/-- One blank ahead goes. -/
theorem trim_ahead (c : UInt8) (s : T) (h : blankB c = true) : trimB (c :: s) = trimB s := by
  rcases dw_all blankB s.reverse with h0 | ⟨d, r, h1, hd⟩
  · have e : (c :: s).reverse.dropWhile blankB = [] := by
      rw [List.reverse_cons, List.dropWhile_append, h0]; simp [h]
    rw [trim_def, trim_def, h0, e]
  · have e : (c :: s).reverse.dropWhile blankB = (d :: r) ++ [c] := by
      rw [List.reverse_cons, List.dropWhile_append, h1]; simp
    rw [trim_def, trim_def, h1, e, List.reverse_append]
    exact dw_skip _ _ _ h

theorem trim_behind (s : T) (c : UInt8) (h : blankB c = true) : trimB (s ++ [c]) = trimB s := by
  rw [trim_def, trim_def, List.reverse_append]
  show (([c] ++ s.reverse).dropWhile blankB).reverse.dropWhile blankB = _
  rw [List.singleton_append, dw_skip _ _ _ h]

theorem bad_no (c : UInt8) (h : bads.contains c = true) : blankB c = false := by
  simp [bads] at h
  rcases h with rfl | rfl | rfl <;> rfl

theorem val_trim (s : T) (h : s.any bads.contains = false) : valB (trimB s) = true := by
  unfold valB
  rw [trim_twice]
  have : (trimB s).any bads.contains = false := by
    rw [List.any_eq_false] at h ⊢
    exact fun x hx => h x (trim_sub s x hx)
  rw [this]; simp

theorem val_bads {s : T} (h : valB s = true) : ∀ x ∈ s, bads.contains x = false := by
  unfold valB at h
  simp only [Bool.and_eq_true, Bool.not_eq_true', List.any_eq_false] at h
  intro x hx
  cases e : bads.contains x
  · rfl
  · exact absurd e (h.1 x hx)

theorem val_same {s : T} (h : valB s = true) : trimB s = s := by
  unfold valB at h
  simp only [Bool.and_eq_true, decide_eq_true_eq] at h
  exact h.2

theorem val_def (s : T) : valB s = ((!s.any bads.contains) && (trimB s == s)) := by
  unfold valB
  congr 1
  rw [Bool.eq_iff_iff]
  simp

/-! ### Names -/

theorem name_mem {s : T} (h : nameB s = true) : ∀ x ∈ s, inN x = true := by
  unfold nameB at h
  simp only [Bool.and_eq_true, List.all_eq_true] at h
  exact h.1

theorem name_ne {s : T} (h : nameB s = true) : s ≠ [] := by
  unfold nameB at h
  simp only [Bool.and_eq_true, decide_eq_true_eq] at h
  exact h.2

theorem inN_low : ∀ c : UInt8, inN (Ascii.lowB c) = inN c := by
  intro c
  have h : ∀ n : Fin 256, inN (Ascii.lowB (UInt8.ofNat n.1)) = inN (UInt8.ofNat n.1) := by decide +kernel
  have := h ⟨c.toNat, c.toNat_lt⟩
  simpa using this

theorem name_low (s : T) : nameB (Ascii.lower s) = nameB s := by
  unfold nameB Ascii.lower
  rw [List.all_map]
  have e : (inN ∘ Ascii.lowB) = inN := funext inN_low
  rw [e]
  cases s <;> simp

theorem inN_bound : ∀ c : UInt8, inN c = true → 32 < c.toNat ∧ c.toNat < 127 ∧ c ≠ 58 ∧ c ≠ 44 := by
  intro c
  have h : ∀ n : Fin 256, inN (UInt8.ofNat n.1) = true → 32 < (UInt8.ofNat n.1).toNat ∧ (UInt8.ofNat n.1).toNat < 127 ∧ UInt8.ofNat n.1 ≠ 58 ∧ UInt8.ofNat n.1 ≠ 44 := by decide +kernel
  have := h ⟨c.toNat, c.toNat_lt⟩
  simpa using this

theorem name_13 {s : T} (h : nameB s = true) : (13 : UInt8) ∉ s := fun hm => by
  have := (inN_bound 13 (name_mem h 13 hm)).1
  revert this; decide

theorem name_58 {s : T} (h : nameB s = true) : (58 : UInt8) ∉ s := fun hm => (inN_bound 58 (name_mem h 58 hm)).2.2.1 rfl

theorem val_13 {s : T} (h : valB s = true) : (13 : UInt8) ∉ s := fun hm => by
  have := val_bads h 13 hm
  revert this; decide

/-! ### Lines -/

/-- Ahead of what stands here, the first end of a line is the one that follows. -/
def Fst (a : T) : Prop := ∀ r, Lib.index (a ++ 13 :: 10 :: r) [13, 10] = (a.length : Int)

theorem pre_two (c : UInt8) (a r r' : T) : List.isPrefixOf [13, 10] (c :: (a ++ 13 :: 10 :: r)) = List.isPrefixOf [13, 10] (c :: (a ++ 13 :: 10 :: r')) := by
  cases a <;> simp [List.isPrefixOf]

theorem idx_cons_no (c : UInt8) (l : T) (h : List.isPrefixOf [13, 10] (c :: l) = false) : Lib.index (c :: l) [13, 10] = if Lib.index l [13, 10] == -1 then -1 else Lib.index l [13, 10] + 1 := by
  rw [Lib.index, h]; simp

theorem fst_cons {c : UInt8} {a : T} (h : Fst a) (hp : ∀ r, List.isPrefixOf [13, 10] (c :: (a ++ 13 :: 10 :: r)) = false) : Fst (c :: a) := by
  intro r
  rw [List.cons_append, idx_cons_no c _ (hp r), h r]
  rw [if_neg (by simp)]
  simp

theorem parted2 (l : T) : Lib.index l [13, 10] = -1 ∨ ∃ a r, l = a ++ 13 :: 10 :: r ∧ Fst a := by
  induction l with
  | nil => exact .inl rfl
  | cons c l ih =>
    cases hp : List.isPrefixOf [13, 10] (c :: l)
    · rcases ih with h | ⟨a, r, rfl, h⟩
      · left
        rw [idx_cons_no c l hp, h]; rfl
      · right
        exact ⟨c :: a, r, rfl, fst_cons h fun r' => by rw [pre_two c a r' r]; exact hp⟩
    · right
      rw [List.isPrefixOf_iff_prefix] at hp
      obtain ⟨t, ht⟩ := hp
      refine ⟨[], t, by rw [← ht]; rfl, fun r => ?_⟩
      show Lib.index (13 :: 10 :: r) [13, 10] = 0
      rw [Lib.index]; simp [List.isPrefixOf]

theorem fst_no {a : T} (h : (13 : UInt8) ∉ a) : Fst a := by
  induction a with
  | nil => intro r; show Lib.index (13 :: 10 :: r) [13, 10] = 0; rw [Lib.index]; simp [List.isPrefixOf]
  | cons c a ih =>
    simp only [List.mem_cons, not_or] at h
    refine fst_cons (ih h.2) fun r => ?_
    simp only [List.isPrefixOf, Bool.and_eq_false_iff]
    exact .inl (by simpa using h.1)

theorem cut_end {a : T} (h : Fst a) (r : T) : Lib.cut (a ++ 13 :: 10 :: r) [13, 10] = (a, r, true) := by
  unfold Lib.cut
  rw [h r, if_pos (by omega)]
  simp

theorem cut_none {l : T} (h : Lib.index l [13, 10] = -1) : Lib.cut l [13, 10] = (l, [], false) := by
  unfold Lib.cut
  rw [h, if_neg (by omega)]

theorem cut_less (c : UInt8) (l : T) : (Lib.cut (c :: l) [13, 10]).2.1.length < (c :: l).length := by
  rcases parted2 (c :: l) with h | ⟨a, r, h, hf⟩
  · rw [cut_none h]; simp
  · rw [h, cut_end hf]; simp; omega

/-- Lines, and whether each has its end. -/
def linesL (l : T) : List (T × Bool) :=
  match l with
  | [] => []
  | c :: t => ((Lib.cut (c :: t) [13, 10]).1, (Lib.cut (c :: t) [13, 10]).2.2) :: linesL (Lib.cut (c :: t) [13, 10]).2.1
termination_by l.length
decreasing_by exact cut_less c t

theorem lines_nil : linesL [] = [] := by rw [linesL]

theorem lines_cons (l : T) (h : l ≠ []) : linesL l = ((Lib.cut l [13, 10]).1, (Lib.cut l [13, 10]).2.2) :: linesL (Lib.cut l [13, 10]).2.1 := by
  cases l with
  | nil => exact absurd rfl h
  | cons c t => rw [linesL]

theorem lines_end {a : T} (h : Fst a) (r : T) : linesL (a ++ 13 :: 10 :: r) = (a, true) :: linesL r := by
  rw [lines_cons _ (by simp), cut_end h]

theorem lines_none {l : T} (hl : l ≠ []) (h : Lib.index l [13, 10] = -1) : linesL l = [(l, false)] := by
  rw [lines_cons _ hl, cut_none h, lines_nil]

theorem lines_len (l : T) : (linesL l).length ≤ l.length := by
  induction hn : l.length using Nat.strongRecOn generalizing l with
  | _ n ih =>
    subst hn
    by_cases hl : l = []
    · subst hl; rw [lines_nil]; exact Nat.le_refl _
    · rcases parted2 l with h | ⟨a, r, rfl, hf⟩
      · rw [lines_none hl h]
        cases l with
        | nil => exact absurd rfl hl
        | cons c t => simp
      · rw [lines_end hf]
        have := ih r.length (by simp; omega) r rfl
        simp; omega

theorem lines_mem (l : T) : ∀ p ∈ linesL l, p.1.length ≤ l.length := by
  induction hn : l.length using Nat.strongRecOn generalizing l with
  | _ n ih =>
    subst hn
    by_cases hl : l = []
    · subst hl; rw [lines_nil]; simp
    · rcases parted2 l with h | ⟨a, r, rfl, hf⟩
      · rw [lines_none hl h]; simp
      · rw [lines_end hf]
        intro p hp
        rcases List.mem_cons.1 hp with rfl | hp
        · simp
        · have := ih r.length (by simp; omega) r rfl p hp
          simp; omega

/-! ### Fields out of lines -/

def stepL (p : T × Bool) : Option F := if p.2 then fieldO p.1 else none

def fieldsL : List (T × Bool) → Option (List F)
  | [] => some []
  | p :: r => (stepL p).bind fun f => (fieldsL r).map (f :: ·)

def parseL (l : T) : Option (List F) := fieldsL (linesL l)

theorem fields_nil : fieldsL [] = some [] := rfl

theorem fields_cons (p : T × Bool) (r : List (T × Bool)) : fieldsL (p :: r) = (stepL p).bind fun f => (fieldsL r).map (f :: ·) := rfl

theorem fields_some {p : T × Bool} {f : F} (r : List (T × Bool)) (h : stepL p = some f) : fieldsL (p :: r) = (fieldsL r).map (f :: ·) := by rw [fields_cons, h]; rfl

theorem fields_none {p : T × Bool} (r : List (T × Bool)) (h : stepL p = none) : fieldsL (p :: r) = none := by rw [fields_cons, h]; rfl

theorem fields_app (a b : List (T × Bool)) : fieldsL (a ++ b) = (fieldsL a).bind fun x => (fieldsL b).map (x ++ ·) := by
  induction a with
  | nil => rw [List.nil_append, fields_nil]; cases h : fieldsL b <;> simp [h]
  | cons p a ih =>
    rw [List.cons_append]
    cases h : stepL p with
    | none => rw [fields_none _ h, fields_none _ h]; rfl
    | some f =>
      rw [fields_some _ h, fields_some _ h, ih]
      cases fieldsL a <;> cases fieldsL b <;> rfl

theorem parse_nil : parseL [] = some [] := by unfold parseL; rw [lines_nil]; rfl

theorem parse_end {a : T} (h : Fst a) (r : T) : parseL (a ++ 13 :: 10 :: r) = (fieldO a).bind fun f => (parseL r).map (f :: ·) := by
  unfold parseL
  rw [lines_end h]
  rfl

theorem parse_none {l : T} (hl : l ≠ []) (h : Lib.index l [13, 10] = -1) : parseL l = none := by
  unfold parseL
  rw [lines_none hl h]
  rfl

theorem field_ok {s : T} {f : F} (h : fieldO s = some f) : nameB f.1 = true ∧ valB f.2 = true ∧ f.1.length ≤ s.length ∧ f.2.length ≤ s.length := by
  unfold fieldO at h
  split at h
  · rename_i hc
    simp only [Bool.and_eq_true] at hc
    cases h
    exact ⟨hc.1.2, hc.2, bef_len _ _, Nat.le_trans (trim_len _) (aft_len _ _)⟩
  · cases h

theorem parse_ok (l : T) : ∀ x, parseL l = some x → ∀ f ∈ x, nameB f.1 = true ∧ valB f.2 = true ∧ f.1.length ≤ l.length ∧ f.2.length ≤ l.length := by
  induction hn : l.length using Nat.strongRecOn generalizing l with
  | _ n ih =>
    subst hn
    intro x hx f hf
    by_cases hl : l = []
    · subst hl; rw [parse_nil] at hx; cases hx; simp at hf
    · rcases parted2 l with h | ⟨a, r, rfl, hF⟩
      · rw [parse_none hl h] at hx; cases hx
      · rw [parse_end hF] at hx
        cases h1 : fieldO a with
        | none => rw [h1] at hx; cases hx
        | some g =>
          cases h2 : parseL r with
          | none => rw [h1, h2] at hx; cases hx
          | some y =>
            rw [h1, h2] at hx
            cases hx
            have hlen : r.length < (a ++ 13 :: 10 :: r).length := by simp; omega
            rcases List.mem_cons.1 hf with rfl | hf
            · have := field_ok h1
              refine ⟨this.1, this.2.1, ?_, ?_⟩ <;> simp <;> omega
            · have := ih r.length hlen r rfl y h2 f hf
              exact ⟨this.1, this.2.1, by omega, by omega⟩

theorem parse_app (a b : T) : ∀ x, parseL a = some x → parseL (a ++ b) = (parseL b).map (x ++ ·) := by
  induction hn : a.length using Nat.strongRecOn generalizing a with
  | _ n ih =>
    subst hn
    intro x hx
    by_cases hl : a = []
    · subst hl; rw [parse_nil] at hx; cases hx; cases h : parseL b <;> simp [h]
    · rcases parted2 a with h | ⟨u, r, rfl, hF⟩
      · rw [parse_none hl h] at hx; cases hx
      · rw [parse_end hF] at hx
        rw [List.append_assoc, List.cons_append, List.cons_append, parse_end hF]
        cases h1 : fieldO u with
        | none => rw [h1] at hx; cases hx
        | some g =>
          cases h2 : parseL r with
          | none => rw [h1, h2] at hx; cases hx
          | some y =>
            rw [h1, h2] at hx
            cases hx
            rw [ih r.length (by simp; omega) r rfl y h2]
            cases parseL b <;> rfl

/-- A field, written out. -/
def out1 (f : F) : T := f.1 ++ 58 :: 32 :: (f.2 ++ [13, 10])

def outL (x : List F) : T := x.flatMap out1

theorem outL_snoc (x : List F) (f : F) : outL (x ++ [f]) = outL x ++ out1 f := by unfold outL; simp

theorem field_back {f : F} (h1 : nameB f.1 = true) (h2 : valB f.2 = true) : fieldO (f.1 ++ 58 :: 32 :: f.2) = some f := by
  have h58 := name_58 h1
  unfold fieldO
  rw [bef_at _ _ h58, aft_at _ _ h58, trim_ahead 32 f.2 rfl, val_same h2, h1, h2]
  simp

theorem parse_out (x : List F) (h : ∀ f ∈ x, nameB f.1 = true ∧ valB f.2 = true) : parseL (outL x) = some x := by
  induction x with
  | nil => exact parse_nil
  | cons f x ih =>
    have hf := h f (by simp)
    have e : outL (f :: x) = (f.1 ++ 58 :: 32 :: f.2) ++ 13 :: 10 :: outL x := by unfold outL out1; simp
    rw [e, parse_end (fst_no _), field_back hf.1 hf.2, ih fun g hg => h g (by simp [hg])]
    · rfl
    · simp only [List.mem_append, List.mem_cons, not_or]
      exact ⟨name_13 hf.1, by decide, by decide, val_13 hf.2⟩

/-! ### Lists of fields -/

def goesB (ns : List T) (f : F) : Bool := (ns.map Ascii.lower).contains (Ascii.lower f.1)

def allL (l : List F) (n : T) : List T := (l.filter (goesB [n])).map (·.2)

def dropL (l : List F) (ns : List T) : List F := l.filter fun f => !goesB ns f

def setL (l : List F) (n v : T) : List F := dropL (l.takeWhile fun f => !goesB [n] f) [n] ++ (n, v) :: dropL (l.dropWhile fun f => !goesB [n] f) [n]

def getT (l : List F) (n : T) : T := Lib.join (allL l n) [44, 32]

def getB (l : List F) (n : T) : Bool := decide (0 < (allL l n).length)

theorem goes_one (n : T) (f : F) : goesB [n] f = decide (Ascii.lower f.1 = Ascii.lower n) := by
  unfold goesB
  simp [List.contains_iff_mem]

theorem goes_low (n : T) (f : F) : goesB [Ascii.lower n] f = goesB [n] f := by
  rw [goes_one, goes_one, Ascii.lower_lower]

theorem tw_all {p : F → Bool} (l : List F) : ∀ f ∈ l.takeWhile p, p f = true := by
  induction l with
  | nil => simp
  | cons a l ih =>
    cases h : p a
    · rw [List.takeWhile_cons_of_neg (by simp [h])]; simp
    · rw [List.takeWhile_cons_of_pos h]
      intro f hf
      rcases List.mem_cons.1 hf with rfl | hf
      · exact h
      · exact ih f hf

theorem goes_two (a b : T) (f : F) : goesB [a, b] f = (goesB [a] f || goesB [b] f) := by
  unfold goesB
  simp

theorem goes_none (f : F) : goesB [] f = false := rfl

theorem drop_none (l : List F) : dropL l [] = l := by
  unfold dropL
  simp [goes_none]

theorem drop_app (a b : List F) (ns : List T) : dropL (a ++ b) ns = dropL a ns ++ dropL b ns := by unfold dropL; simp

theorem all_app (a b : List F) (n : T) : allL (a ++ b) n = allL a n ++ allL b n := by unfold allL; simp

theorem all_low (l : List F) (n : T) : allL l (Ascii.lower n) = allL l n := by
  unfold allL
  rw [show goesB [Ascii.lower n] = goesB [n] from funext (goes_low n)]

theorem take_stays (l : List F) (n : T) : dropL (l.takeWhile fun f => !goesB [n] f) [n] = l.takeWhile fun f => !goesB [n] f := by
  unfold dropL
  rw [List.filter_eq_self]
  intro f hf
  exact tw_all l f hf

theorem drop_split (l : List F) (n : T) : dropL l [n] = dropL (l.takeWhile fun f => !goesB [n] f) [n] ++ dropL (l.dropWhile fun f => !goesB [n] f) [n] := by
  rw [← drop_app, List.takeWhile_append_dropWhile]

theorem set_len (l : List F) (n v : T) : (setL l n v).length = (dropL l [n]).length + 1 := by
  rw [drop_split]; unfold setL; simp; omega

theorem goes_self (n v : T) : goesB [n] (n, v) = true := by rw [goes_one]; simp

theorem set_drop (l : List F) (n v : T) : dropL (setL l n v) [n] = dropL l [n] := by
  rw [drop_split l n]
  unfold setL
  rw [drop_app]
  have h1 : ∀ l : List F, dropL (dropL l [n]) [n] = dropL l [n] := fun l => by unfold dropL; rw [List.filter_filter]; simp
  have h2 : dropL ((n, v) :: dropL (l.dropWhile fun f => !goesB [n] f) [n]) [n] = dropL (l.dropWhile fun f => !goesB [n] f) [n] := by
    rw [show ((n, v) :: dropL (l.dropWhile fun f => !goesB [n] f) [n]) = [(n, v)] ++ dropL (l.dropWhile fun f => !goesB [n] f) [n] from rfl, drop_app, h1]
    unfold dropL
    simp [goes_self]
  rw [h1, h2]

theorem all_drop (l : List F) (n : T) (ns : List T) (h : ∀ f : F, goesB [n] f = true → goesB ns f = false) : allL (dropL l ns) n = allL l n := by
  unfold allL dropL
  rw [List.filter_filter]
  congr 2
  funext f
  cases h1 : goesB [n] f
  · simp
  · simp [h f h1]

theorem all_gone (l : List F) (n : T) (ns : List T) (h : ∀ f : F, goesB [n] f = true → goesB ns f = true) : allL (dropL l ns) n = [] := by
  unfold allL dropL
  rw [List.filter_filter, List.map_eq_nil_iff, List.filter_eq_nil_iff]
  intro f _
  cases h1 : goesB [n] f
  · simp
  · simp [h f h1]

theorem all_set (l : List F) (n v : T) : allL (setL l n v) n = [v] := by
  unfold setL
  rw [all_app, all_gone _ _ _ fun f h => h]
  rw [show ((n, v) :: dropL (l.dropWhile fun f => !goesB [n] f) [n]) = [(n, v)] ++ dropL (l.dropWhile fun f => !goesB [n] f) [n] from rfl, all_app, all_gone _ _ _ fun f h => h]
  unfold allL
  simp [goes_self]

theorem goes_apart {n o : T} (h : Ascii.lower n ≠ Ascii.lower o) (f : F) (hf : goesB [o] f = true) : goesB [n] f = false := by
  rw [goes_one] at *
  simp at hf
  simp [hf]
  exact fun e => h e.symm

theorem all_other (l : List F) (n v o : T) (h : Ascii.lower n ≠ Ascii.lower o) : allL (setL l n v) o = allL l o := by
  have e : ∀ k : List F, allL (dropL k [n]) o = allL k o := fun k => all_drop k o [n] fun f hf => goes_apart h f hf
  unfold setL
  rw [all_app, e]
  rw [show ((n, v) :: dropL (l.dropWhile fun f => !goesB [n] f) [n]) = [(n, v)] ++ dropL (l.dropWhile fun f => !goesB [n] f) [n] from rfl, all_app, e]
  have h0 : allL [(n, v)] o = [] := by
    unfold allL
    rw [List.map_eq_nil_iff, List.filter_eq_nil_iff]
    intro f hf
    obtain rfl : f = (n, v) := by simpa using hf
    rw [goes_one]
    simpa using h
  rw [h0, List.nil_append, ← all_app, List.takeWhile_append_dropWhile]

theorem set_twice (l : List F) (n v : T) : setL (setL l n v) n v = setL l n v := by
  have ht : (setL l n v).takeWhile (fun f => !goesB [n] f) = l.takeWhile fun f => !goesB [n] f := by
    unfold setL
    rw [take_stays, List.takeWhile_append_of_pos fun f hf => tw_all l f hf, List.takeWhile_cons_of_neg (by simp [goes_self]), List.append_nil]
  have hd : (setL l n v).dropWhile (fun f => !goesB [n] f) = (n, v) :: dropL (l.dropWhile fun f => !goesB [n] f) [n] := by
    unfold setL
    rw [take_stays, List.dropWhile_append_of_pos fun f hf => tw_all l f hf, List.dropWhile_cons_of_neg (by simp [goes_self])]
  unfold setL at ht hd ⊢
  rw [ht, hd]
  congr 1
  congr 1
  rw [show ((n, v) :: dropL (l.dropWhile fun f => !goesB [n] f) [n]) = [(n, v)] ++ dropL (l.dropWhile fun f => !goesB [n] f) [n] from rfl, drop_app]
  unfold dropL
  rw [List.filter_filter]
  simp [goes_self]

theorem drop_drop (l : List F) (a b : T) : dropL (dropL l [b]) [a] = dropL l [a, b] := by
  unfold dropL
  rw [List.filter_filter]
  congr 1
  funext f
  rw [goes_two]
  cases goesB [a] f <;> cases goesB [b] f <;> rfl

theorem drop_len (l : List F) (ns : List T) : (dropL l ns).length ≤ l.length := List.length_filter_le _ _

theorem all_len (l : List F) (n : T) : (allL l n).length ≤ l.length := by unfold allL; rw [List.length_map]; exact List.length_filter_le _ _

theorem all_mem (l : List F) (n : T) : ∀ t ∈ allL l n, ∃ f ∈ l, f.2 = t := by
  intro t ht
  unfold allL at ht
  obtain ⟨f, hf, rfl⟩ := List.mem_map.1 ht
  exact ⟨f, (List.mem_filter.1 hf).1, rfl⟩

theorem drop_mem (l : List F) (ns : List T) : ∀ f ∈ dropL l ns, f ∈ l := fun f hf => (List.mem_filter.1 hf).1

theorem set_mem (l : List F) (n v : T) : ∀ f ∈ setL l n v, f = (n, v) ∨ f ∈ l := by
  intro f hf
  unfold setL at hf
  rcases List.mem_append.1 hf with h | h
  · exact .inr ((List.takeWhile_prefix _).subset (drop_mem _ _ f h))
  · rcases List.mem_cons.1 h with h | h
    · exact .inl h
    · exact .inr ((List.dropWhile_suffix _).subset (drop_mem _ _ f h))
/-! ### Values with commas between -/

theorem join_app (x y : List T) (sep : T) (hx : x ≠ []) (hy : y ≠ []) : Lib.join (x ++ y) sep = Lib.join x sep ++ sep ++ Lib.join y sep := by
  induction x with
  | nil => exact absurd rfl hx
  | cons a x ih =>
    cases x with
    | nil =>
      cases y with
      | nil => exact absurd rfl hy
      | cons b y => simp [Lib.join, List.intercalate]
    | cons c x =>
      have := ih (by simp)
      simp only [Lib.join, List.intercalate] at this ⊢
      simp [List.intersperse] at this ⊢
      rw [this]

theorem get_app (a b : List F) (n : T) : getT (a ++ b) n = if getB a n && getB b n then getT a n ++ [44, 32] ++ getT b n else getT a n ++ getT b n := by
  unfold getT getB
  rw [all_app]
  by_cases ha : allL a n = []
  · rw [ha]; simp [Lib.join_nil]
  · by_cases hb : allL b n = []
    · rw [hb]; simp [Lib.join_nil]
    · rw [if_pos, join_app _ _ _ ha hb]
      simp [List.length_pos_iff, ha, hb]

theorem get_none (a : List F) (n : T) (h : getB a n = false) : getT a n = [] := by
  unfold getB at h
  unfold getT
  have : allL a n = [] := by simpa using h
  rw [this]; rfl

theorem getB_app (a b : List F) (n : T) : getB (a ++ b) n = (getB a n || getB b n) := by
  unfold getB
  rw [all_app, List.length_append, Bool.eq_iff_iff]
  simp only [decide_eq_true_eq, Bool.or_eq_true]
  omega

theorem join_len (x : List T) (k : Nat) (h : ∀ t ∈ x, t.length ≤ k) : (Lib.join x [44, 32]).length ≤ x.length * (k + 2) := by
  induction x with
  | nil => simp [Lib.join_nil]
  | cons a x ih =>
    have ha := h a (by simp)
    cases x with
    | nil => rw [Lib.join_one]; simp; omega
    | cons b x =>
      have := ih fun t ht => h t (by simp [ht])
      rw [show a :: b :: x = [a] ++ (b :: x) from rfl, join_app _ _ _ (by simp) (by simp), Lib.join_one]
      have e : (a :: b :: x).length * (k + 2) = (b :: x).length * (k + 2) + (k + 2) := by rw [List.length_cons, Nat.add_mul, Nat.one_mul]
      rw [List.singleton_append, e]
      simp only [List.length_append, List.length_cons, List.length_nil] at this ⊢
      omega

end Go.Proofs.YtbgebolamkfnlaaDoor.Head
