/-
  Eight pieces with colons between, as lists of bytes: shown, parsed, the longest row of noughts. Nothing of the program.
-/
import Derived.Test.YtgfhjigalefkmaaDoorAscii
import Derived.Lib.Split
import Derived.Lib.Join
import Derived.Lib.IndexMore
namespace Go.Proofs.YtgfhjigalefkmaaDoor.Six
set_option linter.unusedSimpArgs false

theorem snocInd {α : Type} {p : List α → Prop} (h0 : p []) (h1 : ∀ l c, p l → p (l ++ [c])) (l : List α) : p l := by
  rw [← l.reverse_reverse]
  induction l.reverse with
  | nil => exact h0
  | cons c r ih => rw [List.reverse_cons]; exact h1 _ _ ih

/-! ### Pieces' texts -/
def hexV (c : UInt8) : Int := Ascii.hexI (c.toNat : Int)
def okC (c : UInt8) : Bool := decide (0 ≤ hexV c)
def valN (l : List UInt8) : Nat := l.foldl (fun n c => n * 16 + (hexV c).toNat) 0
/-- Is it a piece's text? -/
def okP (l : List UInt8) : Bool := decide (1 ≤ l.length) && (decide (l.length ≤ 4) && l.all okC)
def hexC (n : Nat) : UInt8 := if n < 10 then UInt8.ofNat (48 + n) else UInt8.ofNat (87 + n)
/-- A number's text. -/
def hexN (n : Nat) : List UInt8 := if n < 16 then [hexC n] else hexN (n / 16) ++ [hexC (n % 16)]
termination_by n

theorem hexV_le (c : UInt8) : hexV c ≤ 15 := by unfold hexV Ascii.hexI; split <;> (try split) <;> (try split) <;> omega
theorem valN_nil : valN [] = 0 := rfl
theorem valN_snoc (l : List UInt8) (c : UInt8) : valN (l ++ [c]) = valN l * 16 + (hexV c).toNat := by simp [valN]
theorem valN_lt (l : List UInt8) : valN l < 16 ^ l.length := by
  refine snocInd (p := fun l => valN l < 16 ^ l.length) (by decide) (fun l c ih => ?_) l
  have := hexV_le c
  show valN (l ++ [c]) < 16 ^ (l ++ [c]).length
  rw [valN_snoc, List.length_append, List.length_singleton, Nat.pow_succ]
  omega
theorem hexC_all : ∀ n : Fin 16, hexV (hexC n.val) = (n.val : Int) ∧ hexC n.val ≠ 58 ∧ okC (hexC n.val) = true := by decide +kernel
theorem hexV_hexC {n : Nat} (h : n < 16) : hexV (hexC n) = (n : Int) := (hexC_all ⟨n, h⟩).1
theorem okC_hexC {n : Nat} (h : n < 16) : okC (hexC n) = true := (hexC_all ⟨n, h⟩).2.2
theorem hexN_lt {n : Nat} (h : n < 16) : hexN n = [hexC n] := by rw [hexN, if_pos h]
theorem hexN_ge {n : Nat} (h : ¬ n < 16) : hexN n = hexN (n / 16) ++ [hexC (n % 16)] := by rw [hexN, if_neg h]
theorem hexN_val (n : Nat) : valN (hexN n) = n := by
  induction n using Nat.strongRecOn with
  | ind n ih =>
    by_cases h : n < 16
    · rw [hexN_lt h, show [hexC n] = [] ++ [hexC n] from rfl, valN_snoc, hexV_hexC h]
      simp [valN]
    · rw [hexN_ge h, valN_snoc, ih (n / 16) (by omega), hexV_hexC (by omega)]
      omega
theorem hexN_okC (n : Nat) : (hexN n).all okC = true := by
  induction n using Nat.strongRecOn with
  | ind n ih =>
    by_cases h : n < 16
    · rw [hexN_lt h]; simp [okC_hexC h]
    · rw [hexN_ge h, List.all_append, ih (n / 16) (by omega)]
      simp [okC_hexC (show n % 16 < 16 by omega)]
theorem hexN_pos (n : Nat) : 1 ≤ (hexN n).length := by
  by_cases h : n < 16
  · rw [hexN_lt h]; simp
  · rw [hexN_ge h]; simp
theorem hexN_len (k n : Nat) (h : n < 16 ^ (k + 1)) : (hexN n).length ≤ k + 1 := by
  induction k generalizing n with
  | zero => rw [hexN_lt (by simpa using h)]; simp
  | succ k ih =>
    by_cases h16 : n < 16
    · rw [hexN_lt h16]; simp
    · rw [hexN_ge h16, List.length_append, List.length_singleton]
      have := ih (n / 16) (by rw [Nat.pow_succ] at h; omega)
      omega
theorem hexN_okP (n : Nat) (h : n ≤ 65535) : okP (hexN n) = true := by
  unfold okP
  rw [hexN_okC, decide_eq_true (hexN_pos n), decide_eq_true (hexN_len 3 n (by omega))]
  rfl
theorem okP_iff (t : List UInt8) : okP t = true ↔ 1 ≤ t.length ∧ t.length ≤ 4 ∧ t.all okC = true := by
  unfold okP
  rw [Bool.and_eq_true, Bool.and_eq_true, decide_eq_true_iff, decide_eq_true_iff]
theorem okP_min (t : List UInt8) (h : okP t = true) : (hexN (valN t)).length ≤ t.length := by
  obtain ⟨h1, h2, _⟩ := (okP_iff t).1 h
  obtain ⟨k, hk⟩ : ∃ k, t.length = k + 1 := ⟨t.length - 1, by omega⟩
  have := valN_lt t
  rw [hk] at this ⊢
  exact hexN_len k _ this
theorem okP_val (t : List UInt8) (h : okP t = true) : valN t ≤ 65535 := by
  obtain ⟨h1, h2, _⟩ := (okP_iff t).1 h
  have := valN_lt t
  have h3 : 16 ^ t.length ≤ 16 ^ 4 := Nat.pow_le_pow_right (by omega) h2
  omega
theorem okC_colon : okC 58 = false := by decide +kernel
theorem okP_ne (t : List UInt8) (h : okP t = true) : t ≠ [] := by
  intro e
  subst e
  simp [okP] at h
theorem okP_no (t : List UInt8) (h : okP t = true) : (58 : UInt8) ∉ t := by
  intro hm
  have := List.all_eq_true.1 ((okP_iff t).1 h).2.2 58 hm
  rw [okC_colon] at this
  cases this

/-! ### Colons -/
/-- The parts between colons. -/
def parts : List UInt8 → List (List UInt8)
  | [] => [[]]
  | c :: r => if c = 58 then [] :: parts r else match parts r with
    | [] => [[c]]
    | h :: t => (c :: h) :: t
def joinC : List (List UInt8) → List UInt8
  | [] => []
  | [x] => x
  | x :: y :: r => x ++ 58 :: joinC (y :: r)
/-- What stands ahead of the first two colons, what stands behind, and whether there are any. -/
def cutL : List UInt8 → List UInt8 × List UInt8 × Bool
  | 58 :: 58 :: r => ([], r, true)
  | c :: r => (c :: (cutL r).1, (cutL r).2.1, (cutL r).2.2)
  | [] => ([], [], false)

theorem parts_ne (l : List UInt8) : parts l ≠ [] := by
  cases l with
  | nil => simp [parts]
  | cons c r => unfold parts; split <;> (try split) <;> simp
theorem parts_none (l : List UInt8) (h : (58 : UInt8) ∉ l) : parts l = [l] := by
  induction l with
  | nil => rfl
  | cons c r ih =>
    simp only [List.mem_cons, not_or] at h
    unfold parts
    rw [if_neg (fun e => h.1 e.symm), ih h.2]
theorem parts_cons (a r : List UInt8) (h : (58 : UInt8) ∉ a) : parts (a ++ 58 :: r) = a :: parts r := by
  induction a with
  | nil => simp [parts]
  | cons c a ih =>
    simp only [List.mem_cons, not_or] at h
    rw [List.cons_append]
    conv => lhs; unfold parts
    rw [if_neg (fun e => h.1 e.symm), ih h.2]
theorem first_colon (l : List UInt8) : (58 : UInt8) ∉ l ∨ ∃ a r, l = a ++ 58 :: r ∧ (58 : UInt8) ∉ a := by
  by_cases h : (58 : UInt8) ∈ l
  · exact .inr (List.eq_append_cons_of_mem h)
  · exact .inl h
theorem parts_join (ts : List (List UInt8)) (hn : ts ≠ []) (h : ∀ t ∈ ts, (58 : UInt8) ∉ t) : parts (joinC ts) = ts := by
  induction ts with
  | nil => exact absurd rfl hn
  | cons x r ih =>
    cases r with
    | nil => exact parts_none _ (h x (by simp))
    | cons y r =>
      show parts (x ++ 58 :: joinC (y :: r)) = _
      rw [parts_cons _ _ (h x (by simp)), ih (by simp) (fun t ht => h t (List.mem_cons_of_mem _ ht))]
theorem join_parts (l : List UInt8) : joinC (parts l) = l := by
  induction l with
  | nil => rfl
  | cons c r ih =>
    unfold parts
    cases hp : parts r with
    | nil => exact absurd hp (parts_ne r)
    | cons x t =>
      rw [hp] at ih
      split
      · rename_i e
        subst e
        show [] ++ 58 :: joinC (x :: t) = _
        rw [ih]; rfl
      · cases t with
        | nil => simp only [joinC] at ih ⊢; rw [ih]
        | cons y t => simp only [joinC, List.cons_append] at ih ⊢; rw [ih]
theorem joinC_lib (xs : List (List UInt8)) : Lib.join xs [58] = joinC xs := by
  induction xs with
  | nil => rfl
  | cons x r ih =>
    cases r with
    | nil => exact Lib.join_one _ _
    | cons y r =>
      rw [Lib.join_cons]
      rw [Lib.join_cons] at ih
      show _ = x ++ 58 :: joinC (y :: r)
      rw [← ih]
      simp [Lib.joinTail]
def lens (ts : List (List UInt8)) : Nat := (ts.map List.length).sum
theorem joinC_len (ts : List (List UInt8)) : (joinC ts).length = lens ts + (ts.length - 1) := by
  induction ts with
  | nil => rfl
  | cons x r ih =>
    cases r with
    | nil => simp [joinC, lens]
    | cons y r =>
      show (x ++ 58 :: joinC (y :: r)).length = _
      rw [List.length_append, List.length_cons, ih]
      simp [lens]
      omega

/-! ### Two colons -/
theorem cutL_ne (c : UInt8) (r : List UInt8) (h : c ≠ 58 ∨ r.head? ≠ some 58) : cutL (c :: r) = (c :: (cutL r).1, (cutL r).2.1, (cutL r).2.2) := by
  conv => lhs; unfold cutL
  split
  · rename_i heq
    cases heq
    simp at h
  · rename_i heq
    cases heq
    rfl
  · rename_i heq
    cases heq
theorem cutL_spec (l : List UInt8) : ((cutL l).2.2 = true ∧ l = (cutL l).1 ++ 58 :: 58 :: (cutL l).2.1) ∨ ((cutL l).2.2 = false ∧ (cutL l).1 = l ∧ (cutL l).2.1 = []) := by
  fun_induction cutL l with
  | case1 r => exact .inl ⟨rfl, rfl⟩
  | case2 c r _ ih =>
    rcases ih with ⟨h1, h2⟩ | ⟨h1, h2, h3⟩
    · exact .inl ⟨h1, by rw [List.cons_append, ← h2]⟩
    · exact .inr ⟨h1, by rw [h2], h3⟩
  | case3 => exact .inr ⟨rfl, rfl, rfl⟩
theorem cut_index (l : List UInt8) : (Lib.index l [58, 58] = -1 ∧ (cutL l).2.2 = false) ∨ (∃ k : Nat, Lib.index l [58, 58] = k ∧ (cutL l).2.2 = true ∧ (cutL l).1 = l.take k ∧ (cutL l).2.1 = l.drop (k + 2)) := by
  fun_induction cutL l with
  | case1 r => exact .inr ⟨0, by simp [Lib.index], rfl, rfl, rfl⟩
  | case2 c r hne ih =>
    have hp : List.isPrefixOf [58, 58] (c :: r) = false := by
      cases r with
      | nil => simp [List.isPrefixOf]
      | cons d r =>
        cases e : List.isPrefixOf [58, 58] (c :: d :: r)
        · rfl
        · simp [List.isPrefixOf] at e
          obtain ⟨rfl, rfl⟩ := e
          exact absurd rfl (hne r rfl)
    rcases ih with ⟨h1, h2⟩ | ⟨k, h1, h2, h3, h4⟩
    · refine .inl ⟨?_, h2⟩
      unfold Lib.index
      rw [hp, h1]
      rfl
    · refine .inr ⟨k + 1, ?_, h2, by simp [h3], by simp [h4]⟩
      unfold Lib.index
      rw [hp, h1]
      have : ((k : Int) == -1) = false := beq_false_of_ne (by omega)
      simp [this]
  | case3 => exact .inl ⟨rfl, rfl⟩
theorem cut_lib (l : List UInt8) : Lib.cut l [58, 58] = cutL l := by
  unfold Lib.cut
  rcases cut_index l with ⟨h1, h2⟩ | ⟨k, h1, h2, h3, h4⟩
  · rw [h1, if_neg (by omega)]
    rcases cutL_spec l with ⟨h, _⟩ | ⟨_, h4, h5⟩
    · rw [h2] at h; cases h
    · refine Prod.ext h4.symm (Prod.ext h5.symm h2.symm)
  · rw [h1, if_pos (by omega)]
    refine Prod.ext ?_ (Prod.ext ?_ h2.symm)
    · simp [h3]
    · simp [h4]
theorem cutL_text (x r : List UInt8) (h : (58 : UInt8) ∉ x) (hx : x ≠ []) : cutL (x ++ 58 :: 58 :: r) = (x, r, true) := by
  induction x with
  | nil => exact absurd rfl hx
  | cons c x ih =>
    simp only [List.mem_cons, not_or] at h
    rw [List.cons_append, cutL_ne _ _ (.inl (fun e => h.1 e.symm))]
    cases x with
    | nil => rfl
    | cons d x => rw [ih h.2 (by simp)]
theorem cutL_ahead (x r : List UInt8) (h : (58 : UInt8) ∉ x) (hx : x ≠ []) (hr : r.head? ≠ some 58) : cutL (x ++ 58 :: r) = (x ++ 58 :: (cutL r).1, (cutL r).2.1, (cutL r).2.2) := by
  induction x with
  | nil => exact absurd rfl hx
  | cons c x ih =>
    simp only [List.mem_cons, not_or] at h
    rw [List.cons_append, cutL_ne _ _ (.inl (fun e => h.1 e.symm))]
    cases x with
    | nil => rw [List.nil_append, cutL_ne _ _ (.inr hr)]; rfl
    | cons d x => rw [ih h.2 (by simp)]; rfl
theorem cutL_free (x : List UInt8) (h : (58 : UInt8) ∉ x) : cutL x = (x, [], false) := by
  induction x with
  | nil => rfl
  | cons c x ih =>
    simp only [List.mem_cons, not_or] at h
    rw [cutL_ne _ _ (.inl (fun e => h.1 e.symm)), ih h.2]
/-- Texts that are there and have no colons. -/
def Texts (ts : List (List UInt8)) : Prop := ∀ t ∈ ts, (58 : UInt8) ∉ t ∧ t ≠ []
theorem head_join (y : List UInt8) (r : List (List UInt8)) (b : List UInt8) (h : (58 : UInt8) ∉ y ∧ y ≠ []) : (joinC (y :: r) ++ b).head? ≠ some 58 := by
  obtain ⟨h1, h2⟩ := h
  cases y with
  | nil => exact absurd rfl h2
  | cons c y =>
    simp only [List.mem_cons, not_or] at h1
    cases r with
    | nil => simp [joinC]; exact fun e => h1.1 e.symm
    | cons z r => simp [joinC]; exact fun e => h1.1 e.symm
theorem cut_join (ts : List (List UInt8)) (h : Texts ts) : cutL (joinC ts) = (joinC ts, [], false) := by
  induction ts with
  | nil => rfl
  | cons x r ih =>
    cases r with
    | nil => exact cutL_free _ (h x (by simp)).1
    | cons y r =>
      show cutL (x ++ 58 :: joinC (y :: r)) = (x ++ 58 :: joinC (y :: r), [], false)
      have hh := head_join y r [] (h y (by simp))
      rw [List.append_nil] at hh
      rw [cutL_ahead _ _ (h x (by simp)).1 (h x (by simp)).2 hh, ih (fun t ht => h t (List.mem_cons_of_mem _ ht))]
theorem cut_join2 (ts : List (List UInt8)) (b : List UInt8) (h : Texts ts) : cutL (joinC ts ++ 58 :: 58 :: b) = (joinC ts, b, true) := by
  induction ts with
  | nil => rfl
  | cons x r ih =>
    cases r with
    | nil => exact cutL_text _ _ (h x (by simp)).1 (h x (by simp)).2
    | cons y r =>
      show cutL ((x ++ 58 :: joinC (y :: r)) ++ 58 :: 58 :: b) = (x ++ 58 :: joinC (y :: r), b, true)
      rw [List.append_assoc, List.cons_append, cutL_ahead _ _ (h x (by simp)).1 (h x (by simp)).2 (head_join y r _ (h y (by simp))), ih (fun t ht => h t (List.mem_cons_of_mem _ ht))]

/-! ### Parsed -/
/-- Are they pieces' texts with colons between, or nothing? -/
def okL (l : List UInt8) : Bool := l.isEmpty || (parts l).all okP
def valL (l : List UInt8) : List Nat := if l.isEmpty then [] else (parts l).map valN
def fitB (n : Nat) (sh : Bool) : Bool := if sh then decide (n < 8) else decide (n = 8)
def parB (l : List UInt8) : Bool := okL (cutL l).1 && (okL (cutL l).2.1 && fitB ((valL (cutL l).1).length + (valL (cutL l).2.1).length) (cutL l).2.2)
def fill (a b : List Nat) : List Nat := a ++ (List.replicate (8 - a.length - b.length) 0 ++ b)
def ints (l : List Nat) : List Int := l.map Int.ofNat
def zero8 : List Int := [0, 0, 0, 0, 0, 0, 0, 0]
def parI (l : List UInt8) : List Int := if parB l then ints (fill (valL (cutL l).1) (valL (cutL l).2.1)) else zero8

theorem okL_join (ts : List (List UInt8)) (h : ts.all okP = true) : okL (joinC ts) = true ∧ valL (joinC ts) = ts.map valN := by
  cases ts with
  | nil => exact ⟨rfl, rfl⟩
  | cons x r =>
    have hp := parts_join (x :: r) (by simp) (fun t ht => okP_no t (List.all_eq_true.1 h t ht))
    have hne : (joinC (x :: r)).isEmpty = false := by
      have hx := okP_ne x (List.all_eq_true.1 h x (by simp))
      cases x with
      | nil => exact absurd rfl hx
      | cons c x => cases r <;> rfl
    unfold okL valL
    rw [hne, hp, h]
    exact ⟨rfl, rfl⟩
theorem texts_ok (ts : List (List UInt8)) (h : ts.all okP = true) : Texts ts := fun t ht => ⟨okP_no t (List.all_eq_true.1 h t ht), okP_ne t (List.all_eq_true.1 h t ht)⟩
/-- Eight texts. -/
theorem par_eight (ts : List (List UInt8)) (h : ts.all okP = true) (h8 : ts.length = 8) : parB (joinC ts) = true ∧ parI (joinC ts) = ints (ts.map valN) := by
  have e := okL_join ts h
  have hb : parB (joinC ts) = true := by
    unfold parB
    rw [cut_join ts (texts_ok ts h)]
    show (okL (joinC ts) && (okL [] && fitB ((valL (joinC ts)).length + (valL []).length) false)) = true
    rw [e.1, e.2, List.length_map, h8]
    rfl
  refine ⟨hb, ?_⟩
  unfold parI
  rw [if_pos hb, cut_join ts (texts_ok ts h)]
  show ints (fill (valL (joinC ts)) []) = _
  rw [e.2]
  simp [fill, h8]
/-- Fewer, and two colons. -/
theorem par_gap (ts us : List (List UInt8)) (h : ts.all okP = true) (hu : us.all okP = true) : parB (joinC ts ++ 58 :: 58 :: joinC us) = decide (ts.length + us.length < 8) ∧ (ts.length + us.length < 8 → parI (joinC ts ++ 58 :: 58 :: joinC us) = ints (fill (ts.map valN) (us.map valN))) := by
  have e := okL_join ts h
  have e' := okL_join us hu
  have hb : parB (joinC ts ++ 58 :: 58 :: joinC us) = decide (ts.length + us.length < 8) := by
    unfold parB
    rw [cut_join2 ts _ (texts_ok ts h)]
    simp [e.1, e.2, e'.1, e'.2, fitB]
  refine ⟨hb, fun hlt => ?_⟩
  unfold parI
  rw [hb, decide_eq_true hlt, if_pos rfl, cut_join2 ts _ (texts_ok ts h)]
  simp [e.2, e'.2]
theorem okL_texts (l : List UInt8) (h : okL l = true) : ∃ ts : List (List UInt8), ts.all okP = true ∧ l = joinC ts ∧ valL l = ts.map valN := by
  cases l with
  | nil => exact ⟨[], rfl, rfl, rfl⟩
  | cons c r => exact ⟨parts (c :: r), by simpa [okL] using h, (join_parts _).symm, rfl⟩
/-- What is parsed is texts. -/
theorem par_some (l : List UInt8) (h : parB l = true) : (∃ ts : List (List UInt8), ts.all okP = true ∧ ts.length = 8 ∧ l = joinC ts ∧ parI l = ints (ts.map valN)) ∨
    (∃ ts us : List (List UInt8), ts.all okP = true ∧ us.all okP = true ∧ ts.length + us.length < 8 ∧ l = joinC ts ++ 58 :: 58 :: joinC us ∧ parI l = ints (fill (ts.map valN) (us.map valN))) := by
  have hI : parI l = ints (fill (valL (cutL l).1) (valL (cutL l).2.1)) := by unfold parI; rw [if_pos h]
  unfold parB at h
  simp only [Bool.and_eq_true] at h
  obtain ⟨h1, h2, h3⟩ := h
  obtain ⟨ts, ht, e1, v1⟩ := okL_texts _ h1
  obtain ⟨us, hu, e2, v2⟩ := okL_texts _ h2
  rw [v1, v2] at h3 hI
  rcases cutL_spec l with ⟨hs, hl⟩ | ⟨hs, hl, hr⟩
  · rw [hs] at h3
    simp [fitB] at h3
    exact .inr ⟨ts, us, ht, hu, h3, by rw [← e1, ← e2]; exact hl, hI⟩
  · rw [hs] at h3
    have hus : us.map valN = [] := by rw [← v2, hr]; rfl
    have hu0 : us = [] := by simpa using hus
    subst hu0
    simp [fitB] at h3
    refine .inl ⟨ts, ht, h3, by rw [← e1, hl], ?_⟩
    rw [hI]
    simp [fill, h3]
end Go.Proofs.YtgfhjigalefkmaaDoor.Six
