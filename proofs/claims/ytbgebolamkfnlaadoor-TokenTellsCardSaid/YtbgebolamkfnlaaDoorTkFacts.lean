/-
  Layer 14, plain: what stands between commas, names of policies, lists of them. Functions of lists of bytes; nothing of the program.
-/
import Derived.Lib.Split
import Derived.Lib.SplitLaws
import Derived.Test.YtbgebolamkfnlaaDoorHdFacts
namespace Go.Proofs.YtbgebolamkfnlaaDoor.Token
set_option linter.unusedSimpArgs false
set_option linter.unusedVariables false
set_option maxRecDepth 100000


open Url

open Head (F trimB blankB Fr Bk trim_ahead trim_behind trim_len trim_sub getT getB allL dropL goesB)


/-! ### Between commas -/
/-- What stands ahead of, between, and behind the commas. -/
def cm : T → List T
  | [] => [[]]
  | c :: r => if c = 44 then [] :: cm r else match cm r with
    | [] => [[c]]
    | h :: t => (c :: h) :: t

theorem cm_ne (l : T) : cm l ≠ [] := by
  cases l with
  | nil => simp [cm]
  | cons c r => unfold cm; split <;> (try split) <;> simp

theorem cm_none (l : T) (h : (44 : UInt8) ∉ l) : cm l = [l] := by
  induction l with
  | nil => rfl
  | cons c r ih =>
    simp only [List.mem_cons, not_or] at h
    unfold cm
    rw [if_neg (fun e => h.1 e.symm), ih h.2]

theorem cm_cons (a r : T) (h : (44 : UInt8) ∉ a) : cm (a ++ 44 :: r) = a :: cm r := by
  induction a with
  | nil => simp [cm]
  | cons c a ih =>
    simp only [List.mem_cons, not_or] at h
    rw [List.cons_append]
    conv => lhs; unfold cm
    rw [if_neg (fun e => h.1 e.symm), ih h.2]

theorem cmInd {p : T → Prop} (h0 : ∀ l, (44 : UInt8) ∉ l → p l) (h1 : ∀ a r, (44 : UInt8) ∉ a → p r → p (a ++ 44 :: r)) (l : T) : p l := by
  have key : ∀ n (l : T), l.length ≤ n → p l := by
    intro n
    induction n with
    | zero =>
      intro l hl
      obtain rfl : l = [] := List.eq_nil_of_length_eq_zero (by omega)
      exact h0 [] (by simp)
    | succ n ih =>
      intro l hl
      rcases parted 44 l with h | ⟨a, r, rfl, ha⟩
      · exact h0 l h
      · exact h1 a r ha (ih r (by simp at hl; omega))
  exact key _ l (Nat.le_refl _)

theorem cm_app (a b : T) : cm (a ++ 44 :: b) = cm a ++ cm b := by
  refine cmInd (p := fun a => cm (a ++ 44 :: b) = cm a ++ cm b) (fun l h => ?_) (fun u r hu ih => ?_) a
  · rw [cm_cons _ _ h, cm_none _ h]; rfl
  · rw [List.append_assoc, List.cons_append, cm_cons _ _ hu, ih, cm_cons _ _ hu]; rfl

/-- What strings.Split cuts. -/
theorem split_cm (l : T) : Lib.splitK [44] 0 (Lib.count l [44]) l = cm l := by
  refine cmInd (p := fun l => Lib.splitK [44] 0 (Lib.count l [44]) l = cm l) (fun l h => ?_) (fun a r ha ih => ?_) l
  · rw [cm_none _ h]
    generalize Lib.count l [44] = k
    cases k with
    | zero => rfl
    | succ k => unfold Lib.splitK; rw [idx_no l h]; rfl
  · have hc := Lib.count_hit (sub := [44]) (by simp) (idx_at a r ha)
    rw [show (a ++ 44 :: r).drop (a.length + ([44] : T).length) = r by simp] at hc
    rw [hc, Nat.add_comm, cm_cons _ _ ha, ← ih]
    conv => lhs; unfold Lib.splitK
    rw [idx_at a r ha, if_neg (by simp)]
    simp

theorem cm_len (l : T) : (cm l).length ≤ l.length + 1 := by
  refine cmInd (p := fun l => (cm l).length ≤ l.length + 1) (fun l h => ?_) (fun a r ha ih => ?_) l
  · rw [cm_none _ h]; simp
  · rw [cm_cons _ _ ha]; simp; omega

theorem cm_mem (l : T) : ∀ t ∈ cm l, (44 : UInt8) ∉ t ∧ t.length ≤ l.length := by
  refine cmInd (p := fun l => ∀ t ∈ cm l, (44 : UInt8) ∉ t ∧ t.length ≤ l.length) (fun l h => ?_) (fun a r ha ih => ?_) l
  · rw [cm_none _ h]; intro t ht; obtain rfl : t = l := by simpa using ht
    exact ⟨h, Nat.le_refl _⟩
  · rw [cm_cons _ _ ha]
    intro t ht
    rcases List.mem_cons.1 ht with rfl | ht
    · exact ⟨ha, by simp⟩
    · exact ⟨(ih t ht).1, by have := (ih t ht).2; simp; omega⟩

/-- A list's texts. -/
def splitL (l : T) : List T := (cm l).map trimB

theorem split_len (l : T) : (splitL l).length ≤ l.length + 1 := by unfold splitL; rw [List.length_map]; exact cm_len l

theorem split_pos (l : T) : 1 ≤ (splitL l).length := by
  unfold splitL
  rw [List.length_map]
  exact List.length_pos_iff.2 (cm_ne l)

theorem split_mem (l : T) : ∀ t ∈ splitL l, (44 : UInt8) ∉ t ∧ Fr t ∧ Bk t ∧ t.length ≤ l.length := by
  intro t ht
  obtain ⟨u, hu, rfl⟩ := List.mem_map.1 ht
  have h := cm_mem l u hu
  exact ⟨fun hm => h.1 (trim_sub u 44 hm), (Head.trim_ends u).1, (Head.trim_ends u).2, Nat.le_trans (trim_len u) h.2⟩

theorem split_app (a b : T) : splitL (a ++ 44 :: b) = splitL a ++ splitL b := by unfold splitL; rw [cm_app, List.map_append]

theorem split_none (l : T) (h : (44 : UInt8) ∉ l) : splitL l = [trimB l] := by unfold splitL; rw [cm_none _ h]; rfl

theorem blank_44 {c : UInt8} (h : blankB c = true) : c ≠ 44 := by rintro rfl; revert h; decide

theorem split_ahead (c : UInt8) (l : T) (h : blankB c = true) : splitL (c :: l) = splitL l := by
  have hc := blank_44 h
  rcases parted 44 l with hl | ⟨a, r, rfl, ha⟩
  · rw [split_none _ hl, split_none _ (by simp [hl, hc.symm]), trim_ahead c l h]
  · rw [← List.cons_append, split_app, split_app, split_none _ ha, split_none (c :: a) (by simp [ha, hc.symm]), trim_ahead c a h]

theorem split_behind (l : T) (c : UInt8) (h : blankB c = true) : splitL (l ++ [c]) = splitL l := by
  have hc := blank_44 h
  refine cmInd (p := fun l => splitL (l ++ [c]) = splitL l) (fun l hl => ?_) (fun a r ha ih => ?_) l
  · rw [split_none _ hl, split_none _ (by simp [hl, hc.symm]), trim_behind l c h]
  · rw [List.append_assoc, List.cons_append, split_app, split_app, ih]

/-! ### Names -/

def nameT : Nat → T
  | 1 => [110, 111, 45, 114, 101, 102, 101, 114, 114, 101, 114]
  | 2 => [110, 111, 45, 114, 101, 102, 101, 114, 114, 101, 114, 45, 119, 104, 101, 110, 45, 100, 111, 119, 110, 103, 114, 97, 100, 101]
  | 3 => [115, 97, 109, 101, 45, 111, 114, 105, 103, 105, 110]
  | 4 => [111, 114, 105, 103, 105, 110]
  | 5 => [115, 116, 114, 105, 99, 116, 45, 111, 114, 105, 103, 105, 110]
  | 6 => [111, 114, 105, 103, 105, 110, 45, 119, 104, 101, 110, 45, 99, 114, 111, 115, 115, 45, 111, 114, 105, 103, 105, 110]
  | 7 => [115, 116, 114, 105, 99, 116, 45, 111, 114, 105, 103, 105, 110, 45, 119, 104, 101, 110, 45, 99, 114, 111, 115, 115, 45, 111, 114, 105, 103, 105, 110]
  | 8 => [117, 110, 115, 97, 102, 101, 45, 117, 114, 108]
  | _ => []

/-- The last of these names that it is, from the number ahead on; else 0. -/
def polF : Nat → T → Nat
  | 0, _ => 0
  | k + 1, t => if t = nameT k then k else polF k t

def polB (s : T) : Nat := polF 9 (Ascii.lower s)

def nameI (p : Int) : T := if 0 ≤ p ∧ p < 9 then nameT p.toNat else []

theorem polF_le (k : Nat) (t : T) : polF k t ≤ k - 1 := by
  induction k with
  | zero => exact Nat.le_refl _
  | succ k ih => unfold polF; split <;> omega

theorem pol_lt (s : T) : polB s < 9 := by have := polF_le 9 (Ascii.lower s); unfold polB; omega

theorem polF_name (k : Nat) (t : T) (h : polF k t ≠ 0) : t = nameT (polF k t) := by
  induction k with
  | zero => exact absurd rfl h
  | succ k ih =>
    unfold polF at h ⊢
    by_cases e : t = nameT k
    · rw [if_pos e]; exact e
    · rw [if_neg e] at h ⊢; exact ih h

theorem pol_name (s : T) (h : polB s ≠ 0) : Ascii.lower s = nameT (polB s) := polF_name 9 _ h

theorem name_low (p : Nat) : Ascii.lower (nameT p) = nameT p := by
  rcases Nat.lt_or_ge p 9 with h | h
  · have : ∀ p : Fin 9, Ascii.lower (nameT p.1) = nameT p.1 := by decide +kernel
    exact this ⟨p, h⟩
  · match p, h with
    | p + 9, _ => rfl

theorem polF_back : ∀ p : Fin 9, polF 9 (nameT p.1) = p.1 := by decide +kernel

theorem pol_is (s : T) (p : Nat) (hp : p < 9) (h : Ascii.lower s = nameT p) : polB s = p := by
  unfold polB
  rw [h]
  exact polF_back ⟨p, hp⟩

theorem pol_back (p : Nat) (hp : p < 9) : polB (nameT p) = p := pol_is _ p hp (name_low p)

theorem name_inj (p q : Nat) (hp : p < 9) (hq : q < 9) (h : nameT p = nameT q) : p = q := by
  rw [← pol_back p hp, h, pol_back q hq]

theorem name_ne (p : Nat) (hp : p < 9) (h0 : 1 ≤ p) : nameT p ≠ [] := fun h => by
  have := name_inj p 0 hp (by omega) (by rw [h]; rfl)
  omega

theorem pol_nil : polB [] = 0 := pol_is [] 0 (by omega) rfl

theorem name_len (p : Nat) : (nameT p).length ≤ 31 := by
  rcases Nat.lt_or_ge p 9 with h | h
  · have : ∀ p : Fin 9, (nameT p.1).length ≤ 31 := by decide +kernel
    exact this ⟨p, h⟩
  · match p, h with
    | p + 9, _ => simp [nameT]

theorem nameI_len (p : Int) : (nameI p).length ≤ 31 := by
  unfold nameI
  split
  · exact name_len _
  · simp

theorem name_ok (p : Nat) (hp : p < 9) : Fr (nameT p) ∧ Bk (nameT p) ∧ (44 : UInt8) ∉ nameT p := by
  have h : ∀ p : Fin 9, trimB (nameT p.1) = nameT p.1 ∧ (44 : UInt8) ∉ nameT p.1 := by decide +kernel
  have h1 := h ⟨p, hp⟩
  have h2 := Head.trim_ends (nameT p)
  rw [show trimB (nameT p) = nameT p from h1.1] at h2
  exact ⟨h2.1, h2.2, h1.2⟩

theorem pol_len (s : T) (h : polB s ≠ 0) : (nameT (polB s)).length = s.length := by
  rw [← pol_name s h]
  unfold Ascii.lower
  rw [List.length_map]

theorem pol_more (s x : T) (hx : x ≠ []) (h : polB s ≠ 0) : polB (s ++ x) ≠ polB s := fun e => by
  have h1 := pol_len (s ++ x) (by rw [e]; exact h)
  rw [e, pol_len s h, List.length_append] at h1
  exact hx (List.eq_nil_of_length_eq_zero (by omega))

/-! ### The last one -/

/-- The last one that is not 0. -/
def lastN : List Nat → Nat
  | [] => 0
  | x :: r => if lastN r = 0 then x else lastN r

theorem lastN_app (a b : List Nat) : lastN (a ++ b) = if lastN b = 0 then lastN a else lastN b := by
  induction a with
  | nil => show lastN b = if lastN b = 0 then 0 else lastN b; split <;> omega
  | cons x a ih =>
    show (if lastN (a ++ b) = 0 then x else lastN (a ++ b)) = if lastN b = 0 then (if lastN a = 0 then x else lastN a) else lastN b
    rw [ih]
    by_cases h : lastN b = 0
    · rw [if_pos h, if_pos h]
    · rw [if_neg h, if_neg h, if_neg h]

theorem lastN_one (x : Nat) : lastN [x] = x := rfl

theorem lastN_snoc (a : List Nat) (x : Nat) : lastN (a ++ [x]) = if x = 0 then lastN a else x := by rw [lastN_app, lastN_one]

theorem lastN_zero (a : List Nat) (h : ∀ x ∈ a, x = 0) : lastN a = 0 := by
  induction a with
  | nil => rfl
  | cons x a ih =>
    show (if lastN a = 0 then x else lastN a) = 0
    rw [if_pos (ih fun y hy => h y (by simp [hy]))]
    exact h x (by simp)

/-- Behind it there is nothing. -/
theorem lastN_at (a b : List Nat) (x : Nat) (hx : x ≠ 0) (hb : ∀ y ∈ b, y = 0) : lastN (a ++ x :: b) = x := by
  rw [show a ++ x :: b = (a ++ [x]) ++ b by simp, lastN_app, if_pos (lastN_zero b hb), lastN_snoc, if_neg hx]

def lastL (l : List T) : Nat := lastN (l.map polB)

theorem lastL_app (a b : List T) : lastL (a ++ b) = if lastL b = 0 then lastL a else lastL b := by unfold lastL; rw [List.map_append, lastN_app]

theorem lastN_lt (a : List Nat) (h : ∀ x ∈ a, x < 9) : lastN a < 9 := by
  induction a with
  | nil => show 0 < 9; omega
  | cons x a ih =>
    show (if lastN a = 0 then x else lastN a) < 9
    split
    · exact h x (by simp)
    · exact ih fun y hy => h y (by simp [hy])

theorem lastL_lt (l : List T) : lastL l < 9 := lastN_lt _ fun x hx => by
  obtain ⟨t, _, rfl⟩ := List.mem_map.1 hx
  exact pol_lt t

def lastB (s : T) : Nat := lastL (splitL s)

theorem last_lt (s : T) : lastB s < 9 := lastL_lt _

theorem last_app (a b : T) : lastB (a ++ 44 :: b) = if lastB b = 0 then lastB a else lastB b := by unfold lastB; rw [split_app, lastL_app]

theorem last_ahead (s : T) : lastB (32 :: s) = lastB s := by unfold lastB; rw [split_ahead 32 s rfl]

theorem last_behind (s : T) (c : UInt8) (h : blankB c = true) : lastB (s ++ [c]) = lastB s := by unfold lastB; rw [split_behind s c h]

theorem last_nil : lastB [] = 0 := by
  unfold lastB
  rw [split_none [] (by simp)]
  exact pol_nil

theorem last_comma (s : T) : lastB (s ++ [44]) = lastB s := by rw [last_app, last_nil, if_pos rfl]

theorem last_name (p : Nat) (hp : p < 9) : lastB (32 :: (nameT p ++ [9])) = p := by
  rw [last_ahead, last_behind _ 9 rfl]
  have h := name_ok p hp
  unfold lastB
  rw [split_none _ h.2.2, Head.trim_same h.1 h.2.1]
  exact pol_back p hp

theorem last_none (a x : T) (h : lastB x = 0) : lastB (a ++ 44 :: x) = lastB a := by rw [last_app, h, if_pos rfl]

theorem last_front (a x : T) (h : lastB x = 0) : lastB (x ++ [32, 44] ++ a) = lastB a := by
  rw [show x ++ [32, 44] ++ a = (x ++ [32]) ++ 44 :: a by simp, last_app, last_behind _ 32 rfl, h]
  split <;> omega

theorem last_mid (a x b : T) (h : lastB x = 0) : lastB (a ++ [44, 32] ++ x ++ 44 :: b) = if lastB b = 0 then lastB a else lastB b := by
  rw [last_app, show a ++ [44, 32] ++ x = a ++ 44 :: 32 :: x by simp, last_app, last_ahead, h, if_pos rfl]

/-! ### Of fields -/

def rp : T := [82, 101, 102, 101, 114, 114, 101, 114, 45, 80, 111, 108, 105, 99, 121]

def rpl : T := [114, 101, 102, 101, 114, 114, 101, 114, 45, 112, 111, 108, 105, 99, 121]

theorem rp_low : Ascii.lower rp = rpl := by decide +kernel

def toldB (l : List F) : Nat := lastB (getT l rp)

theorem told_lt (l : List F) : toldB l < 9 := last_lt _

theorem get_no (l : List F) (h : getB l rp = false) : getT l rp = [] := by
  unfold getB at h
  unfold getT
  have : allL l rp = [] := List.eq_nil_of_length_eq_zero (by have := of_decide_eq_false h; omega)
  rw [this]; rfl

theorem told_no (l : List F) (h : getB l rp = false) : toldB l = 0 := by
  unfold toldB
  rw [get_no l h, last_nil]

theorem told_drop (l : List F) : toldB (dropL l [rp]) = 0 := by
  apply told_no
  unfold getB
  rw [decide_eq_false_iff_not]
  have : allL (dropL l [rp]) rp = [] := by
    unfold allL dropL
    rw [List.filter_filter]
    simp
  rw [this]; simp

theorem goes_rp (n v : T) : goesB [rp] (n, v) = decide (Ascii.lower n = rpl) := by rw [Head.goes_one, rp_low]

theorem told_more (l : List F) (n v : T) : toldB (l ++ [(n, v)]) = if Ascii.lower n = rpl ∧ lastB v ≠ 0 then lastB v else toldB l := by
  unfold toldB
  rw [Head.get_app]
  by_cases hn : Ascii.lower n = rpl
  · have ha : allL [(n, v)] rp = [v] := by unfold allL; simp [goes_rp, hn]
    have hb : getB [(n, v)] rp = true := by unfold getB; rw [ha]; rfl
    have hg : getT [(n, v)] rp = v := by unfold getT; rw [ha, Lib.join_one]
    rw [hb, hg]
    cases hc : getB l rp
    · rw [get_no l hc, last_nil]
      simp [hn]
    · rw [if_pos (by rfl), show getT l rp ++ [44, 32] ++ v = getT l rp ++ 44 :: (32 :: v) by simp, last_app, last_ahead]
      simp [hn]
  · have ha : allL [(n, v)] rp = [] := by unfold allL; simp [goes_rp, hn]
    have hb : getB [(n, v)] rp = false := by unfold getB; rw [ha]; rfl
    rw [hb, get_no _ hb]
    simp [hn]

end Go.Proofs.YtbgebolamkfnlaaDoor.Token
