/-
  Eight pieces with colons between, as lists of bytes: shown, parsed, the longest row of noughts. Nothing of the program.
  Eight pieces: whether they may be, the longest row of noughts, the text; what is shown is parsed. Nothing of the program.
  A number's text to the base of 16, as strconv's FormatInt makes it (read: math/bits.deBruijn64tab at one place).
  Arrays of eight ints on the heap; low(p).
  Arrays of eight ints compared; May(p).
  Run(p), and the document's.
  join(list), Show(p).
  Show(p).
  piece(text), pieces(s).
  pieces(s).
  Parse(s).
  The chapter's examples answer as the chapter says (awake).
  A text whose letters a to f are capital tells the pieces that it tells; bytes changed one by one.
  A row of texts written one behind the other, with two colons in place of some; four digits of a piece.
  Whole arrays read in regions that draw their order.
  Texts in an array on the heap; four digits of a piece, told by a table's places.
  The document's May, gap and text of layer 6.
  The document's Show of layer 6.
  How far a pass over the bytes has told the parts between colons.
  The document's pieces of layer 6.
  The document's Parse of layer 6.
-/
import Derived.Lib.Split
import Derived.Lib.Join
import Derived.Lib.IndexMore
import Derived.Laws.BitsAllLaws
import Derived.BigRegion
import Derived.BigQuiet
import Derived.Deep.RegionWith
import Derived.ChangeKeysEq
import Derived.Deep.LoopGhost
import Derived.WalkMore
import Derived.Deep.AppendLies
import Derived.Lib.SlicesMore
import Derived.Shelf.Abstract
import Derived.IntWalk
import Derived.RegionTactic
import Derived.Test.YtlkikfdbjpjpaaaGreatDoorAscii
import Derived.Test.YtlkikfdbjpjpaaaGreatDoorShelf
namespace Go.Proofs.YtlkikfdbjpjpaaaGreatDoor.Six
set_option linter.unusedSimpArgs false
set_option linter.unusedVariables false
set_option maxRecDepth 100000


theorem snocInd {α : Type} {p : List α → Prop} (h0 : p []) (h1 : ∀ l c, p l → p (l ++ [c])) (l : List α) : p l := by
  rw [← l.reverse_reverse]
  induction l.reverse with
  | nil => exact h0
  | cons c r ih => rw [List.reverse_cons]; exact h1 _ _ ih

/-! ### Pieces' texts -/

def hexV (c : UInt8) : Int := Ascii.hexI (c.toNat : Int)

def okC (c : UInt8) : Bool := decide (0 ≤ hexV c)

def valN (l : List UInt8) : Nat := l.foldl (fun n c => n * 16 + (hexV c).toNat) 0

/-- Is it a piece's text? -/
def okP (l : List UInt8) : Bool := decide (1 ≤ l.length) && (decide (l.length ≤ 4) && l.all okC)

def hexC (n : Nat) : UInt8 := if n < 10 then UInt8.ofNat (48 + n) else UInt8.ofNat (87 + n)

/-- A number's text. -/
def hexN (n : Nat) : List UInt8 := if n < 16 then [hexC n] else hexN (n / 16) ++ [hexC (n % 16)]
termination_by n

theorem hexV_le (c : UInt8) : hexV c ≤ 15 := by unfold hexV Ascii.hexI; split <;> (try split) <;> (try split) <;> omega

theorem valN_nil : valN [] = 0 := rfl

theorem valN_snoc (l : List UInt8) (c : UInt8) : valN (l ++ [c]) = valN l * 16 + (hexV c).toNat := by simp [valN]

theorem valN_lt (l : List UInt8) : valN l < 16 ^ l.length := by
  refine snocInd (p := fun l => valN l < 16 ^ l.length) (by decide) (fun l c ih => ?_) l
  have := hexV_le c
  show valN (l ++ [c]) < 16 ^ (l ++ [c]).length
  rw [valN_snoc, List.length_append, List.length_singleton, Nat.pow_succ]
  omega

theorem hexC_all : ∀ n : Fin 16, hexV (hexC n.val) = (n.val : Int) ∧ hexC n.val ≠ 58 ∧ okC (hexC n.val) = true := by decide +kernel

theorem hexV_hexC {n : Nat} (h : n < 16) : hexV (hexC n) = (n : Int) := (hexC_all ⟨n, h⟩).1

theorem okC_hexC {n : Nat} (h : n < 16) : okC (hexC n) = true := (hexC_all ⟨n, h⟩).2.2

theorem hexN_lt {n : Nat} (h : n < 16) : hexN n = [hexC n] := by rw [hexN, if_pos h]

theorem hexN_ge {n : Nat} (h : ¬ n < 16) : hexN n = hexN (n / 16) ++ [hexC (n % 16)] := by rw [hexN, if_neg h]

theorem hexN_val (n : Nat) : valN (hexN n) = n := by
  induction n using Nat.strongRecOn with
  | ind n ih =>
    by_cases h : n < 16
    · rw [hexN_lt h, show [hexC n] = [] ++ [hexC n] from rfl, valN_snoc, hexV_hexC h]
      simp [valN]
    · rw [hexN_ge h, valN_snoc, ih (n / 16) (by omega), hexV_hexC (by omega)]
      omega

theorem hexN_okC (n : Nat) : (hexN n).all okC = true := by
  induction n using Nat.strongRecOn with
  | ind n ih =>
    by_cases h : n < 16
    · rw [hexN_lt h]; simp [okC_hexC h]
    · rw [hexN_ge h, List.all_append, ih (n / 16) (by omega)]
      simp [okC_hexC (show n % 16 < 16 by omega)]

theorem hexN_pos (n : Nat) : 1 ≤ (hexN n).length := by
  by_cases h : n < 16
  · rw [hexN_lt h]; simp
  · rw [hexN_ge h]; simp

theorem hexN_len (k n : Nat) (h : n < 16 ^ (k + 1)) : (hexN n).length ≤ k + 1 := by
  induction k generalizing n with
  | zero => rw [hexN_lt (by simpa using h)]; simp
  | succ k ih =>
    by_cases h16 : n < 16
    · rw [hexN_lt h16]; simp
    · rw [hexN_ge h16, List.length_append, List.length_singleton]
      have := ih (n / 16) (by rw [Nat.pow_succ] at h; omega)
      omega

theorem hexN_okP (n : Nat) (h : n ≤ 65535) : okP (hexN n) = true := by
  unfold okP
  rw [hexN_okC, decide_eq_true (hexN_pos n), decide_eq_true (hexN_len 3 n (by omega))]
  rfl

theorem okP_iff (t : List UInt8) : okP t = true ↔ 1 ≤ t.length ∧ t.length ≤ 4 ∧ t.all okC = true := by
  unfold okP
  rw [Bool.and_eq_true, Bool.and_eq_true, decide_eq_true_iff, decide_eq_true_iff]

theorem okP_min (t : List UInt8) (h : okP t = true) : (hexN (valN t)).length ≤ t.length := by
  obtain ⟨h1, h2, _⟩ := (okP_iff t).1 h
  obtain ⟨k, hk⟩ : ∃ k, t.length = k + 1 := ⟨t.length - 1, by omega⟩
  have := valN_lt t
  rw [hk] at this ⊢
  exact hexN_len k _ this

theorem okP_val (t : List UInt8) (h : okP t = true) : valN t ≤ 65535 := by
  obtain ⟨h1, h2, _⟩ := (okP_iff t).1 h
  have := valN_lt t
  have h3 : 16 ^ t.length ≤ 16 ^ 4 := Nat.pow_le_pow_right (by omega) h2
  omega

theorem okC_colon : okC 58 = false := by decide +kernel

theorem okP_ne (t : List UInt8) (h : okP t = true) : t ≠ [] := by
  intro e
  subst e
  simp [okP] at h

theorem okP_no (t : List UInt8) (h : okP t = true) : (58 : UInt8) ∉ t := by
  intro hm
  have := List.all_eq_true.1 ((okP_iff t).1 h).2.2 58 hm
  rw [okC_colon] at this
  cases this

/-! ### Colons -/

/-- The parts between colons. -/
def parts : List UInt8 → List (List UInt8)
  | [] => [[]]
  | c :: r => if c = 58 then [] :: parts r else match parts r with
    | [] => [[c]]
    | h :: t => (c :: h) :: t

def joinC : List (List UInt8) → List UInt8
  | [] => []
  | [x] => x
  | x :: y :: r => x ++ 58 :: joinC (y :: r)

/-- What stands ahead of the first two colons, what stands behind, and whether there are any. -/
def cutL : List UInt8 → List UInt8 × List UInt8 × Bool
  | 58 :: 58 :: r => ([], r, true)
  | c :: r => (c :: (cutL r).1, (cutL r).2.1, (cutL r).2.2)
  | [] => ([], [], false)

theorem parts_ne (l : List UInt8) : parts l ≠ [] := by
  cases l with
  | nil => simp [parts]
  | cons c r => unfold parts; split <;> (try split) <;> simp

theorem parts_none (l : List UInt8) (h : (58 : UInt8) ∉ l) : parts l = [l] := by
  induction l with
  | nil => rfl
  | cons c r ih =>
    simp only [List.mem_cons, not_or] at h
    unfold parts
    rw [if_neg (fun e => h.1 e.symm), ih h.2]

theorem parts_cons (a r : List UInt8) (h : (58 : UInt8) ∉ a) : parts (a ++ 58 :: r) = a :: parts r := by
  induction a with
  | nil => simp [parts]
  | cons c a ih =>
    simp only [List.mem_cons, not_or] at h
    rw [List.cons_append]
    conv => lhs; unfold parts
    rw [if_neg (fun e => h.1 e.symm), ih h.2]

theorem first_colon (l : List UInt8) : (58 : UInt8) ∉ l ∨ ∃ a r, l = a ++ 58 :: r ∧ (58 : UInt8) ∉ a := by
  by_cases h : (58 : UInt8) ∈ l
  · exact .inr (List.eq_append_cons_of_mem h)
  · exact .inl h

theorem parts_join (ts : List (List UInt8)) (hn : ts ≠ []) (h : ∀ t ∈ ts, (58 : UInt8) ∉ t) : parts (joinC ts) = ts := by
  induction ts with
  | nil => exact absurd rfl hn
  | cons x r ih =>
    cases r with
    | nil => exact parts_none _ (h x (by simp))
    | cons y r =>
      show parts (x ++ 58 :: joinC (y :: r)) = _
      rw [parts_cons _ _ (h x (by simp)), ih (by simp) (fun t ht => h t (List.mem_cons_of_mem _ ht))]

theorem join_parts (l : List UInt8) : joinC (parts l) = l := by
  induction l with
  | nil => rfl
  | cons c r ih =>
    unfold parts
    cases hp : parts r with
    | nil => exact absurd hp (parts_ne r)
    | cons x t =>
      rw [hp] at ih
      split
      · rename_i e
        subst e
        show [] ++ 58 :: joinC (x :: t) = _
        rw [ih]; rfl
      · cases t with
        | nil => simp only [joinC] at ih ⊢; rw [ih]
        | cons y t => simp only [joinC, List.cons_append] at ih ⊢; rw [ih]

theorem joinC_lib (xs : List (List UInt8)) : Lib.join xs [58] = joinC xs := by
  induction xs with
  | nil => rfl
  | cons x r ih =>
    cases r with
    | nil => exact Lib.join_one _ _
    | cons y r =>
      rw [Lib.join_cons]
      rw [Lib.join_cons] at ih
      show _ = x ++ 58 :: joinC (y :: r)
      rw [← ih]
      simp [Lib.joinTail]

def lens (ts : List (List UInt8)) : Nat := (ts.map List.length).sum

theorem joinC_len (ts : List (List UInt8)) : (joinC ts).length = lens ts + (ts.length - 1) := by
  induction ts with
  | nil => rfl
  | cons x r ih =>
    cases r with
    | nil => simp [joinC, lens]
    | cons y r =>
      show (x ++ 58 :: joinC (y :: r)).length = _
      rw [List.length_append, List.length_cons, ih]
      simp [lens]
      omega

/-! ### Two colons -/

theorem cutL_ne (c : UInt8) (r : List UInt8) (h : c ≠ 58 ∨ r.head? ≠ some 58) : cutL (c :: r) = (c :: (cutL r).1, (cutL r).2.1, (cutL r).2.2) := by
  conv => lhs; unfold cutL
  split
  · rename_i heq
    cases heq
    simp at h
  · rename_i heq
    cases heq
    rfl
  · rename_i heq
    cases heq

theorem cutL_spec (l : List UInt8) : ((cutL l).2.2 = true ∧ l = (cutL l).1 ++ 58 :: 58 :: (cutL l).2.1) ∨ ((cutL l).2.2 = false ∧ (cutL l).1 = l ∧ (cutL l).2.1 = []) := by
  fun_induction cutL l with
  | case1 r => exact .inl ⟨rfl, rfl⟩
  | case2 c r _ ih =>
    rcases ih with ⟨h1, h2⟩ | ⟨h1, h2, h3⟩
    · exact .inl ⟨h1, by rw [List.cons_append, ← h2]⟩
    · exact .inr ⟨h1, by rw [h2], h3⟩
  | case3 => exact .inr ⟨rfl, rfl, rfl⟩

theorem cut_index (l : List UInt8) : (Lib.index l [58, 58] = -1 ∧ (cutL l).2.2 = false) ∨ (∃ k : Nat, Lib.index l [58, 58] = k ∧ (cutL l).2.2 = true ∧ (cutL l).1 = l.take k ∧ (cutL l).2.1 = l.drop (k + 2)) := by
  fun_induction cutL l with
  | case1 r => exact .inr ⟨0, by simp [Lib.index], rfl, rfl, rfl⟩
  | case2 c r hne ih =>
    have hp : List.isPrefixOf [58, 58] (c :: r) = false := by
      cases r with
      | nil => simp [List.isPrefixOf]
      | cons d r =>
        cases e : List.isPrefixOf [58, 58] (c :: d :: r)
        · rfl
        · simp [List.isPrefixOf] at e
          obtain ⟨rfl, rfl⟩ := e
          exact absurd rfl (hne r rfl)
    rcases ih with ⟨h1, h2⟩ | ⟨k, h1, h2, h3, h4⟩
    · refine .inl ⟨?_, h2⟩
      unfold Lib.index
      rw [hp, h1]
      rfl
    · refine .inr ⟨k + 1, ?_, h2, by simp [h3], by simp [h4]⟩
      unfold Lib.index
      rw [hp, h1]
      have : ((k : Int) == -1) = false := beq_false_of_ne (by omega)
      simp [this]
  | case3 => exact .inl ⟨rfl, rfl⟩

theorem cut_lib (l : List UInt8) : Lib.cut l [58, 58] = cutL l := by
  unfold Lib.cut
  rcases cut_index l with ⟨h1, h2⟩ | ⟨k, h1, h2, h3, h4⟩
  · rw [h1, if_neg (by omega)]
    rcases cutL_spec l with ⟨h, _⟩ | ⟨_, h4, h5⟩
    · rw [h2] at h; cases h
    · refine Prod.ext h4.symm (Prod.ext h5.symm h2.symm)
  · rw [h1, if_pos (by omega)]
    refine Prod.ext ?_ (Prod.ext ?_ h2.symm)
    · simp [h3]
    · simp [h4]

theorem cutL_text (x r : List UInt8) (h : (58 : UInt8) ∉ x) (hx : x ≠ []) : cutL (x ++ 58 :: 58 :: r) = (x, r, true) := by
  induction x with
  | nil => exact absurd rfl hx
  | cons c x ih =>
    simp only [List.mem_cons, not_or] at h
    rw [List.cons_append, cutL_ne _ _ (.inl (fun e => h.1 e.symm))]
    cases x with
    | nil => rfl
    | cons d x => rw [ih h.2 (by simp)]

theorem cutL_ahead (x r : List UInt8) (h : (58 : UInt8) ∉ x) (hx : x ≠ []) (hr : r.head? ≠ some 58) : cutL (x ++ 58 :: r) = (x ++ 58 :: (cutL r).1, (cutL r).2.1, (cutL r).2.2) := by
  induction x with
  | nil => exact absurd rfl hx
  | cons c x ih =>
    simp only [List.mem_cons, not_or] at h
    rw [List.cons_append, cutL_ne _ _ (.inl (fun e => h.1 e.symm))]
    cases x with
    | nil => rw [List.nil_append, cutL_ne _ _ (.inr hr)]; rfl
    | cons d x => rw [ih h.2 (by simp)]; rfl

theorem cutL_free (x : List UInt8) (h : (58 : UInt8) ∉ x) : cutL x = (x, [], false) := by
  induction x with
  | nil => rfl
  | cons c x ih =>
    simp only [List.mem_cons, not_or] at h
    rw [cutL_ne _ _ (.inl (fun e => h.1 e.symm)), ih h.2]

/-- Texts that are there and have no colons. -/
def Texts (ts : List (List UInt8)) : Prop := ∀ t ∈ ts, (58 : UInt8) ∉ t ∧ t ≠ []

theorem head_join (y : List UInt8) (r : List (List UInt8)) (b : List UInt8) (h : (58 : UInt8) ∉ y ∧ y ≠ []) : (joinC (y :: r) ++ b).head? ≠ some 58 := by
  obtain ⟨h1, h2⟩ := h
  cases y with
  | nil => exact absurd rfl h2
  | cons c y =>
    simp only [List.mem_cons, not_or] at h1
    cases r with
    | nil => simp [joinC]; exact fun e => h1.1 e.symm
    | cons z r => simp [joinC]; exact fun e => h1.1 e.symm

theorem cut_join (ts : List (List UInt8)) (h : Texts ts) : cutL (joinC ts) = (joinC ts, [], false) := by
  induction ts with
  | nil => rfl
  | cons x r ih =>
    cases r with
    | nil => exact cutL_free _ (h x (by simp)).1
    | cons y r =>
      show cutL (x ++ 58 :: joinC (y :: r)) = (x ++ 58 :: joinC (y :: r), [], false)
      have hh := head_join y r [] (h y (by simp))
      rw [List.append_nil] at hh
      rw [cutL_ahead _ _ (h x (by simp)).1 (h x (by simp)).2 hh, ih (fun t ht => h t (List.mem_cons_of_mem _ ht))]

theorem cut_join2 (ts : List (List UInt8)) (b : List UInt8) (h : Texts ts) : cutL (joinC ts ++ 58 :: 58 :: b) = (joinC ts, b, true) := by
  induction ts with
  | nil => rfl
  | cons x r ih =>
    cases r with
    | nil => exact cutL_text _ _ (h x (by simp)).1 (h x (by simp)).2
    | cons y r =>
      show cutL ((x ++ 58 :: joinC (y :: r)) ++ 58 :: 58 :: b) = (x ++ 58 :: joinC (y :: r), b, true)
      rw [List.append_assoc, List.cons_append, cutL_ahead _ _ (h x (by simp)).1 (h x (by simp)).2 (head_join y r _ (h y (by simp))), ih (fun t ht => h t (List.mem_cons_of_mem _ ht))]

/-! ### Parsed -/

/-- Are they pieces' texts with colons between, or nothing? -/
def okL (l : List UInt8) : Bool := l.isEmpty || (parts l).all okP

def valL (l : List UInt8) : List Nat := if l.isEmpty then [] else (parts l).map valN

def fitB (n : Nat) (sh : Bool) : Bool := if sh then decide (n < 8) else decide (n = 8)

def parB (l : List UInt8) : Bool := okL (cutL l).1 && (okL (cutL l).2.1 && fitB ((valL (cutL l).1).length + (valL (cutL l).2.1).length) (cutL l).2.2)

def fill (a b : List Nat) : List Nat := a ++ (List.replicate (8 - a.length - b.length) 0 ++ b)

def ints (l : List Nat) : List Int := l.map Int.ofNat

def zero8 : List Int := [0, 0, 0, 0, 0, 0, 0, 0]

def parI (l : List UInt8) : List Int := if parB l then ints (fill (valL (cutL l).1) (valL (cutL l).2.1)) else zero8

theorem okL_join (ts : List (List UInt8)) (h : ts.all okP = true) : okL (joinC ts) = true ∧ valL (joinC ts) = ts.map valN := by
  cases ts with
  | nil => exact ⟨rfl, rfl⟩
  | cons x r =>
    have hp := parts_join (x :: r) (by simp) (fun t ht => okP_no t (List.all_eq_true.1 h t ht))
    have hne : (joinC (x :: r)).isEmpty = false := by
      have hx := okP_ne x (List.all_eq_true.1 h x (by simp))
      cases x with
      | nil => exact absurd rfl hx
      | cons c x => cases r <;> rfl
    unfold okL valL
    rw [hne, hp, h]
    exact ⟨rfl, rfl⟩

theorem texts_ok (ts : List (List UInt8)) (h : ts.all okP = true) : Texts ts := fun t ht => ⟨okP_no t (List.all_eq_true.1 h t ht), okP_ne t (List.all_eq_true.1 h t ht)⟩

/-- Eight texts. -/
theorem par_eight (ts : List (List UInt8)) (h : ts.all okP = true) (h8 : ts.length = 8) : parB (joinC ts) = true ∧ parI (joinC ts) = ints (ts.map valN) := by
  have e := okL_join ts h
  have hb : parB (joinC ts) = true := by
    unfold parB
    rw [cut_join ts (texts_ok ts h)]
    show (okL (joinC ts) && (okL [] && fitB ((valL (joinC ts)).length + (valL []).length) false)) = true
    rw [e.1, e.2, List.length_map, h8]
    rfl
  refine ⟨hb, ?_⟩
  unfold parI
  rw [if_pos hb, cut_join ts (texts_ok ts h)]
  show ints (fill (valL (joinC ts)) []) = _
  rw [e.2]
  simp [fill, h8]

/-- Fewer, and two colons. -/
theorem par_gap (ts us : List (List UInt8)) (h : ts.all okP = true) (hu : us.all okP = true) : parB (joinC ts ++ 58 :: 58 :: joinC us) = decide (ts.length + us.length < 8) ∧ (ts.length + us.length < 8 → parI (joinC ts ++ 58 :: 58 :: joinC us) = ints (fill (ts.map valN) (us.map valN))) := by
  have e := okL_join ts h
  have e' := okL_join us hu
  have hb : parB (joinC ts ++ 58 :: 58 :: joinC us) = decide (ts.length + us.length < 8) := by
    unfold parB
    rw [cut_join2 ts _ (texts_ok ts h)]
    simp [e.1, e.2, e'.1, e'.2, fitB]
  refine ⟨hb, fun hlt => ?_⟩
  unfold parI
  rw [hb, decide_eq_true hlt, if_pos rfl, cut_join2 ts _ (texts_ok ts h)]
  simp [e.2, e'.2]

theorem okL_texts (l : List UInt8) (h : okL l = true) : ∃ ts : List (List UInt8), ts.all okP = true ∧ l = joinC ts ∧ valL l = ts.map valN := by
  cases l with
  | nil => exact ⟨[], rfl, rfl, rfl⟩
  | cons c r => exact ⟨parts (c :: r), by simpa [okL] using h, (join_parts _).symm, rfl⟩

/-- What is parsed is texts. -/
theorem par_some (l : List UInt8) (h : parB l = true) : (∃ ts : List (List UInt8), ts.all okP = true ∧ ts.length = 8 ∧ l = joinC ts ∧ parI l = ints (ts.map valN)) ∨
    (∃ ts us : List (List UInt8), ts.all okP = true ∧ us.all okP = true ∧ ts.length + us.length < 8 ∧ l = joinC ts ++ 58 :: 58 :: joinC us ∧ parI l = ints (fill (ts.map valN) (us.map valN))) := by
  have hI : parI l = ints (fill (valL (cutL l).1) (valL (cutL l).2.1)) := by unfold parI; rw [if_pos h]
  unfold parB at h
  simp only [Bool.and_eq_true] at h
  obtain ⟨h1, h2, h3⟩ := h
  obtain ⟨ts, ht, e1, v1⟩ := okL_texts _ h1
  obtain ⟨us, hu, e2, v2⟩ := okL_texts _ h2
  rw [v1, v2] at h3 hI
  rcases cutL_spec l with ⟨hs, hl⟩ | ⟨hs, hl, hr⟩
  · rw [hs] at h3
    simp [fitB] at h3
    exact .inr ⟨ts, us, ht, hu, h3, by rw [← e1, ← e2]; exact hl, hI⟩
  · rw [hs] at h3
    have hus : us.map valN = [] := by rw [← v2, hr]; rfl
    have hu0 : us = [] := by simpa using hus
    subst hu0
    simp [fitB] at h3
    refine .inl ⟨ts, ht, h3, by rw [← e1, hl], ?_⟩
    rw [hI]
    simp [fill, h3]



/-! ### The longest row of noughts -/
def zr : List Int → Nat
  | [] => 0
  | x :: r => if x = 0 then zr r + 1 else 0

def better (s : Nat × Nat) (i n : Nat) : Nat × Nat := if s.2 < n then (i, n) else s

/-- The longest row that begins at one of the first i places, and has two at least. -/
def st (p : List Int) : Nat → Nat × Nat
  | 0 => (0, 1)
  | i + 1 => better (st p i) i (zr (p.drop i))

def runP (p : List Int) : Nat × Nat := if (st p 8).2 = 1 then (0, 0) else st p 8

def zrB : List Bool → Nat
  | [] => 0
  | x :: r => if x then zrB r + 1 else 0

def stB (p : List Bool) : Nat → Nat × Nat
  | 0 => (0, 1)
  | i + 1 => better (stB p i) i (zrB (p.drop i))

def runB (p : List Bool) : Nat × Nat := if (stB p 8).2 = 1 then (0, 0) else stB p 8

def noughts (p : List Int) : List Bool := p.map fun z => decide (z = 0)

theorem zr_B (p : List Int) : zr p = zrB (noughts p) := by
  induction p with
  | nil => rfl
  | cons x r ih =>
    show (if x = 0 then zr r + 1 else 0) = if decide (x = 0) = true then zrB (noughts r) + 1 else 0
    rw [ih]
    simp

theorem st_B (p : List Int) (i : Nat) : st p i = stB (noughts p) i := by
  induction i with
  | zero => rfl
  | succ i ih =>
    unfold st stB
    rw [ih, zr_B]
    simp [noughts, List.map_drop]

theorem run_B (p : List Int) : runP p = runB (noughts p) := by unfold runP runB; rw [st_B]

/-- All rows of eight. -/
theorem all_rows {q : List Bool → Prop} (h : ∀ a b c d e f g i : Bool, q [a, b, c, d, e, f, g, i]) (p : List Bool) (h8 : p.length = 8) : q p := by
  match p, h8 with
  | [a, b, c, d, e, f, g, i], _ => exact h a b c d e f g i

theorem runB_fits (p : List Bool) (h8 : p.length = 8) : (runB p).1 + (runB p).2 ≤ 8 ∧ (runB p).2 ≠ 1 ∧ ((runB p).2 = 0 → (runB p).1 = 0) ∧ ((p.drop (runB p).1).take (runB p).2).all id = true :=
  all_rows (q := fun p => (runB p).1 + (runB p).2 ≤ 8 ∧ (runB p).2 ≠ 1 ∧ ((runB p).2 = 0 → (runB p).1 = 0) ∧ ((p.drop (runB p).1).take (runB p).2).all id = true) (by decide +kernel) p h8

theorem runB_most (p : List Bool) (h8 : p.length = 8) (i : Fin 8) (k : Fin 9) (hk : 2 ≤ k.val) (hik : i.val + k.val ≤ 8) (ha : ((p.drop i.val).take k.val).all id = true) : k.val < (runB p).2 ∨ (k.val = (runB p).2 ∧ (runB p).1 ≤ i.val) :=
  all_rows (q := fun p => ∀ (i : Fin 8) (k : Fin 9), 2 ≤ k.val → i.val + k.val ≤ 8 → ((p.drop i.val).take k.val).all id = true → k.val < (runB p).2 ∨ (k.val = (runB p).2 ∧ (runB p).1 ≤ i.val)) (by decide +kernel) p h8 i k hk hik ha

/-- Are the n pieces from at on noughts? -/
def Row0 (p : List Int) (i k : Nat) : Prop := ∀ j, i ≤ j → j < i + k → p[j]? = some 0

theorem row0_B (p : List Int) (i k : Nat) (h : i + k ≤ p.length) : ((noughts p).drop i |>.take k).all id = true ↔ Row0 p i k := by
  rw [List.all_eq_true]
  constructor
  · intro ha j h1 h2
    have hj : j < p.length := by omega
    have hm : (noughts p)[j]'(by simp [noughts]; exact hj) ∈ ((noughts p).drop i).take k := by
      rw [List.mem_iff_getElem]
      refine ⟨j - i, by simp [noughts]; omega, ?_⟩
      simp only [List.getElem_take, List.getElem_drop]
      congr 1
      omega
    have := ha _ hm
    simp [noughts] at this
    rw [List.getElem?_eq_getElem hj, this]
  · intro hr x hx
    rw [List.mem_iff_getElem] at hx
    obtain ⟨j, hj, rfl⟩ := hx
    have hj' : j < k ∧ i + j < p.length := by simp [noughts] at hj; omega
    have := hr (i + j) (by omega) (by omega)
    rw [List.getElem?_eq_getElem hj'.2] at this
    simp only [List.getElem_take, List.getElem_drop]
    simp [noughts]
    exact Option.some.inj this

theorem run_fits (p : List Int) (h8 : p.length = 8) : (runP p).1 + (runP p).2 ≤ 8 ∧ (runP p).2 ≠ 1 ∧ ((runP p).2 = 0 → (runP p).1 = 0) ∧ Row0 p (runP p).1 (runP p).2 := by
  have h := runB_fits (noughts p) (by simp [noughts, h8])
  rw [← run_B] at h
  exact ⟨h.1, h.2.1, h.2.2.1, (row0_B p _ _ (by omega)).1 h.2.2.2⟩

theorem run_most (p : List Int) (h8 : p.length = 8) (i k : Nat) (hk : 2 ≤ k) (hik : i + k ≤ 8) (ha : Row0 p i k) : k < (runP p).2 ∨ (k = (runP p).2 ∧ (runP p).1 ≤ i) := by
  have h := runB_most (noughts p) (by simp [noughts, h8]) ⟨i, by omega⟩ ⟨k, by omega⟩ hk hik ((row0_B p i k (by omega)).2 ha)
  rw [← run_B] at h
  exact h

/-! ### Shown -/

def mayP (p : List Int) : Bool := p.all fun z => decide (0 ≤ z) && decide (z ≤ 65535)

def texts (p : List Int) : List (List UInt8) := p.map fun z => hexN z.toNat

def gapped (at_ n : Nat) (ts : List (List UInt8)) : List UInt8 := joinC (ts.take at_) ++ 58 :: 58 :: joinC (ts.drop (at_ + n))

def showIn (p : List Int) : List UInt8 := if (runP p).2 = 0 then joinC (texts p) else gapped (runP p).1 (runP p).2 (texts p)

def showS (p : List Int) : List UInt8 := if mayP p then showIn p else []

theorem may_iff (p : List Int) : mayP p = true ↔ ∀ z ∈ p, 0 ≤ z ∧ z ≤ 65535 := by
  unfold mayP
  rw [List.all_eq_true]
  simp

theorem texts_okP (p : List Int) (h : mayP p = true) : (texts p).all okP = true := by
  rw [List.all_eq_true]
  intro t ht
  obtain ⟨z, hz, rfl⟩ := List.mem_map.1 ht
  have := (may_iff p).1 h z hz
  exact hexN_okP _ (by omega)

theorem texts_val (p : List Int) (h : mayP p = true) : ints ((texts p).map valN) = p := by
  unfold ints texts
  rw [List.map_map, List.map_map]
  conv => rhs; rw [← List.map_id p]
  refine List.map_congr_left fun z hz => ?_
  have := (may_iff p).1 h z hz
  show Int.ofNat (valN (hexN z.toNat)) = z
  rw [hexN_val]
  simp
  omega

theorem all_take {α : Type} (f : α → Bool) (l : List α) (k : Nat) (h : l.all f = true) : (l.take k).all f = true := by
  rw [List.all_eq_true] at h ⊢
  exact fun x hx => h x (List.mem_of_mem_take hx)

theorem all_drop {α : Type} (f : α → Bool) (l : List α) (k : Nat) (h : l.all f = true) : (l.drop k).all f = true := by
  rw [List.all_eq_true] at h ⊢
  exact fun x hx => h x (List.mem_of_mem_drop hx)

/-- A row of noughts is filled in again. -/
theorem fill_row (v : List Nat) (h8 : v.length = 8) (i k : Nat) (hik : i + k ≤ 8) (h : ∀ j, i ≤ j → j < i + k → v[j]? = some 0) : fill (v.take i) (v.drop (i + k)) = v := by
  unfold fill
  apply List.ext_getElem?
  intro j
  have e1 : (v.take i).length = i := by simp; omega
  have e2 : (v.drop (i + k)).length = 8 - (i + k) := by simp [h8]
  rw [e1, e2, show 8 - i - (8 - (i + k)) = k by omega]
  by_cases h1 : j < i
  · rw [List.getElem?_append_left (by omega), List.getElem?_take_of_lt h1]
  · rw [List.getElem?_append_right (by omega), e1]
    by_cases h2 : j < i + k
    · rw [List.getElem?_append_left (by simp; omega), h j (by omega) h2, List.getElem?_replicate, if_pos (by omega)]
    · rw [List.getElem?_append_right (by simp; omega), List.length_replicate, List.getElem?_drop]
      congr 1
      omega

/-- Texts that tell v, with a row of noughts left out. -/
theorem par_gapped (ts : List (List UInt8)) (hok : ts.all okP = true) (h8 : ts.length = 8) (i k : Nat) (hk : 1 ≤ k) (hik : i + k ≤ 8) (h : ∀ j, i ≤ j → j < i + k → (ts.map valN)[j]? = some 0) :
    parB (gapped i k ts) = true ∧ parI (gapped i k ts) = ints (ts.map valN) := by
  have hg := par_gap (ts.take i) (ts.drop (i + k)) (all_take _ _ _ hok) (all_drop _ _ _ hok)
  have hl : (ts.take i).length + (ts.drop (i + k)).length < 8 := by simp; omega
  refine ⟨by unfold gapped; rw [hg.1, decide_eq_true hl], ?_⟩
  unfold gapped
  rw [hg.2 hl, List.map_take, List.map_drop, fill_row _ (by simp [h8]) i k hik h]

theorem row_vals (p : List Int) (i k : Nat) (h : Row0 p i k) : ∀ j, i ≤ j → j < i + k → ((texts p).map valN)[j]? = some 0 := by
  intro j h1 h2
  have e := h j h1 h2
  unfold texts
  rw [List.map_map, List.getElem?_map, e]
  simp [Function.comp_def, hexN_val]

/-- What is shown is parsed. -/
theorem par_show (p : List Int) (h8 : p.length = 8) (hm : mayP p = true) : parB (showS p) = true ∧ parI (showS p) = p := by
  have hok := texts_okP p hm
  have hv := texts_val p hm
  have hl : (texts p).length = 8 := by simp [texts, h8]
  obtain ⟨r1, r2, r3, r4⟩ := run_fits p h8
  unfold showS
  rw [if_pos hm]
  unfold showIn
  split
  · have := par_eight _ hok hl
    rw [hv] at this
    exact this
  · have := par_gapped (texts p) hok hl (runP p).1 (runP p).2 (by omega) r1 (row_vals p _ _ r4)
    rw [hv] at this
    exact this

theorem show_inj (p q : List Int) (hp : p.length = 8) (hq : q.length = 8) (mp : mayP p = true) (mq : mayP q = true) (h : showS p = showS q) : p = q := by
  rw [← (par_show p hp mp).2, h, (par_show q hq mq).2]

theorem par_nil : parB [] = false := by decide +kernel

theorem show_empty (p : List Int) (h8 : p.length = 8) : showS p = [] ↔ mayP p = false := by
  constructor
  · intro h
    cases hm : mayP p
    · rfl
    · have := (par_show p h8 hm).1
      rw [h, par_nil] at this
      cases this
  · intro h
    unfold showS
    rw [h]
    rfl

/-! ### How long -/

theorem lens_append (a b : List (List UInt8)) : lens (a ++ b) = lens a + lens b := by simp [lens]

theorem lens_split (ts : List (List UInt8)) (i k : Nat) : lens ts = lens (ts.take i) + (lens ((ts.drop i).take k) + lens (ts.drop (i + k))) := by
  have e2 : ts.drop i = (ts.drop i).take k ++ ts.drop (i + k) := by rw [← List.drop_drop, List.take_append_drop]
  have e1 : lens ts = lens (ts.take i) + lens (ts.drop i) := by rw [← lens_append, List.take_append_drop]
  have e3 := congrArg lens e2
  rw [lens_append] at e3
  omega

theorem lens_le (ts : List (List UInt8)) (m : Nat) (h : ∀ t ∈ ts, t.length ≤ m) : lens ts ≤ m * ts.length := by
  induction ts with
  | nil => simp [lens]
  | cons x r ih =>
    have h1 := h x (by simp)
    have h2 := ih fun t ht => h t (List.mem_cons_of_mem _ ht)
    simp only [lens, List.map_cons, List.sum_cons, List.length_cons, Nat.mul_add, Nat.mul_one] at h2 ⊢
    omega

theorem lens_one (ts : List (List UInt8)) (h : ∀ t ∈ ts, t.length = 1) : lens ts = ts.length := by
  induction ts with
  | nil => rfl
  | cons x r ih =>
    have h1 := h x (by simp)
    have h2 := ih fun t ht => h t (List.mem_cons_of_mem _ ht)
    simp only [lens, List.map_cons, List.sum_cons, List.length_cons] at h2 ⊢
    omega

theorem gapped_len (ts : List (List UInt8)) (h8 : ts.length = 8) (i k : Nat) (hik : i + k ≤ 8) : (gapped i k ts).length = lens (ts.take i) + (i - 1) + 2 + (lens (ts.drop (i + k)) + (8 - (i + k) - 1)) := by
  unfold gapped
  simp only [List.length_append, List.length_cons, joinC_len, List.length_take, List.length_drop, h8]
  rw [show min i 8 = i by omega]
  omega

theorem hexN_zero : hexN 0 = [48] := by rw [hexN_lt (by omega)]; decide +kernel

theorem row_one (p : List Int) (i k : Nat) (hik : i + k ≤ p.length) (h : Row0 p i k) : lens (((texts p).drop i).take k) = k := by
  rw [lens_one]
  · simp [texts]; omega
  · intro t ht
    rw [List.mem_iff_getElem] at ht
    obtain ⟨j, hj, rfl⟩ := ht
    have hj' : j < k ∧ i + j < p.length := by simp [texts] at hj; omega
    have := h (i + j) (by omega) (by omega)
    rw [List.getElem?_eq_getElem hj'.2] at this
    simp only [List.getElem_take, List.getElem_drop]
    simp [texts, Option.some.inj this, hexN_zero]

theorem show_len39 (p : List Int) (h8 : p.length = 8) (hm : mayP p = true) : (showS p).length ≤ 39 := by
  have hl : (texts p).length = 8 := by simp [texts, h8]
  have h4 : ∀ t ∈ texts p, t.length ≤ 4 := fun t ht => ((okP_iff t).1 (List.all_eq_true.1 (texts_okP p hm) t ht)).2.1
  have hs := lens_le _ 4 h4
  rw [hl] at hs
  obtain ⟨r1, r2, r3, r4⟩ := run_fits p h8
  unfold showS
  rw [if_pos hm]
  unfold showIn
  split
  · rw [joinC_len, hl]; omega
  · rw [gapped_len _ hl _ _ r1]
    have := lens_split (texts p) (runP p).1 (runP p).2
    rw [row_one p _ _ (by omega) r4] at this
    omega

theorem lens_min (ts : List (List UInt8)) (h : ts.all okP = true) : lens (ts.map fun t => hexN (valN t)) ≤ lens ts := by
  induction ts with
  | nil => exact Nat.le_refl _
  | cons x r ih =>
    rw [List.all_cons, Bool.and_eq_true] at h
    have h1 := okP_min x h.1
    have h2 := ih h.2
    simp only [lens, List.map_cons, List.sum_cons] at h2 ⊢
    omega

theorem texts_ints (v : List Nat) : texts (ints v) = v.map hexN := by
  unfold texts ints
  rw [List.map_map]
  rfl

/-- How long what is shown is, by the lengths of the texts. -/
theorem show_lens (p : List Int) (h8 : p.length = 8) (hm : mayP p = true) : ((runP p).2 = 0 ∧ (showS p).length = lens (texts p) + 7) ∨
    (2 ≤ (runP p).2 ∧ (runP p).1 + (runP p).2 ≤ 8 ∧ (showS p).length + 2 * (runP p).2 = lens (texts p) + 8 + (if (runP p).1 = 0 then 1 else 0) + (if (runP p).1 + (runP p).2 = 8 then 1 else 0)) := by
  have hl : (texts p).length = 8 := by simp [texts, h8]
  obtain ⟨r1, r2, r3, r4⟩ := run_fits p h8
  unfold showS
  rw [if_pos hm]
  unfold showIn
  by_cases h : (runP p).2 = 0
  · refine .inl ⟨h, ?_⟩
    rw [if_pos h, joinC_len, hl]
  · refine .inr ⟨by omega, r1, ?_⟩
    rw [if_neg h, gapped_len _ hl _ _ r1]
    have := lens_split (texts p) (runP p).1 (runP p).2
    rw [row_one p _ _ (by omega) r4] at this
    split <;> split <;> omega

/-- What is parsed may be, and is shown by at most one byte more. -/
theorem par_may (l : List UInt8) (h : parB l = true) : (parI l).length = 8 ∧ mayP (parI l) = true ∧ (showS (parI l)).length ≤ l.length + 1 := by
  rcases par_some l h with ⟨ts, ht, h8, rfl, e⟩ | ⟨ts, us, ht, hu, hlt, rfl, e⟩
  · have hlen : (parI (joinC ts)).length = 8 := by rw [e]; simp [ints, h8]
    have hm : mayP (parI (joinC ts)) = true := by
      rw [e, may_iff]
      intro z hz
      obtain ⟨n, hn, rfl⟩ := List.mem_map.1 hz
      obtain ⟨t, htm, rfl⟩ := List.mem_map.1 hn
      have := okP_val t (List.all_eq_true.1 ht t htm)
      simp
      omega
    refine ⟨hlen, hm, ?_⟩
    have hx : lens (texts (parI (joinC ts))) ≤ lens ts := by
      rw [e, texts_ints, List.map_map]
      exact lens_min ts ht
    have hj : (joinC ts).length = lens ts + 7 := by rw [joinC_len, h8]
    rcases show_lens _ hlen hm with ⟨_, hs⟩ | ⟨h2, h3, hs⟩
    · omega
    · split at hs <;> split at hs <;> omega
  · have hz : 1 ≤ 8 - ts.length - us.length := by omega
    obtain ⟨k, hk⟩ : ∃ k, 8 - ts.length - us.length = k := ⟨_, rfl⟩
    have hf : fill (ts.map valN) (us.map valN) = ts.map valN ++ (List.replicate k 0 ++ us.map valN) := by
      unfold fill
      rw [List.length_map, List.length_map, hk]
    have hlen : (parI (joinC ts ++ 58 :: 58 :: joinC us)).length = 8 := by rw [e, hf]; simp [ints]; omega
    have hm : mayP (parI (joinC ts ++ 58 :: 58 :: joinC us)) = true := by
      rw [e, may_iff, hf]
      intro z hz
      obtain ⟨n, hn, rfl⟩ := List.mem_map.1 hz
      simp only [List.mem_append, List.mem_map, List.mem_replicate] at hn
      rcases hn with ⟨t, htm, rfl⟩ | ⟨_, rfl⟩ | ⟨t, htm, rfl⟩
      · have := okP_val t (List.all_eq_true.1 ht t htm)
        simp
        omega
      · simp
      · have := okP_val t (List.all_eq_true.1 hu t htm)
        simp
        omega
    refine ⟨hlen, hm, ?_⟩
    have hx : lens (texts (parI (joinC ts ++ 58 :: 58 :: joinC us))) ≤ lens ts + (k + lens us) := by
      rw [e, hf, texts_ints, List.map_append, List.map_append, List.map_map, List.map_map, lens_append, lens_append]
      have h1 := lens_min ts ht
      have h2 := lens_min us hu
      have h3 : lens ((List.replicate k 0).map hexN) = k := by
        rw [lens_one]
        · simp
        · intro t ht
          simp [hexN_zero] at ht
          rw [ht.2]
          rfl
      rw [h3]
      exact Nat.add_le_add h1 (Nat.add_le_add (Nat.le_refl _) h2)
    have hrow : Row0 (parI (joinC ts ++ 58 :: 58 :: joinC us)) ts.length k := by
      intro j h1 h2
      rw [e, hf]
      unfold ints
      rw [List.getElem?_map, List.getElem?_append_right (by simp; omega), List.getElem?_append_left (by simp; omega), List.getElem?_replicate, if_pos (by simp; omega)]
      rfl
    have hj : (joinC ts ++ 58 :: 58 :: joinC us).length = lens ts + (ts.length - 1) + 2 + (lens us + (us.length - 1)) := by
      simp only [List.length_append, List.length_cons, joinC_len]
      omega
    have hmost := fun h2 : 2 ≤ k => run_most _ hlen ts.length k h2 (by omega) hrow
    rcases show_lens _ hlen hm with ⟨h0, hs⟩ | ⟨h2, h3, hs⟩
    · by_cases hk2 : 2 ≤ k
      · have := hmost hk2
        omega
      · omega
    · by_cases hk2 : 2 ≤ k
      · rcases hmost hk2 with hm' | ⟨hm1, hm2⟩
        · split at hs <;> split at hs <;> omega
        · split at hs <;> split at hs <;> omega
      · split at hs <;> split at hs <;> omega



open Go.RowKit

set_option maxRecDepth 100000 in
theorem tz64_any (w : World) (hm : w.cell? ⟨5, 15, none⟩ = some (.int .u8 4)) : Calls Tryz.prog 227 #[.int .u64 16] w fun e w' => e = .returned (.int .i64 4) ∧ w = w' := by
  have h1 : bits BinOp.and IntKind.u64 16 (IntKind.u64.wrap (-16)) = 16 := by decide +kernel
  have h2 : IntKind.u64.wrap (16 * 285870213051353865) / 288230376151711744 = 15 := by decide +kernel
  go_enter Tryz.func227, Tryz.ntmps227
  go_wp2
  go_ret
  exact ⟨rfl, rfl⟩

set_option maxRecDepth 100000 in
theorem tz_any (w : World) (hm : w.cell? ⟨5, 15, none⟩ = some (.int .u8 4)) : Calls Tryz.prog 223 #[.int .u64 16] w fun e w' => e = .returned (.int .i64 4) ∧ w = w' := by
  have hc := tz64_any w hm
  go_enter Tryz.func223, Tryz.ntmps223
  go_wp2_with (go_at_call 227; refine hc.mono ?_; rintro e w' ⟨rfl, rfl⟩)
  go_ret
  exact ⟨rfl, rfl⟩

set_option maxRecDepth 100000 in
set_option maxHeartbeats 1000000 in
theorem pow_any (w : World) : Calls Tryz.prog 222 #[.int .i64 16] w fun e w' => e = .returned (.bool true) ∧ w = w' := by
  have h1 : bits BinOp.and IntKind.i64 16 15 = 0 := by decide +kernel
  go_enter Tryz.func222, Tryz.ntmps222
  go_wp2
  go_ret
  exact ⟨rfl, rfl⟩

theorem u64_and15 (n : Nat) (h : n ≤ 65535) : bits .and .u64 (n : Int) 15 = ((n % 16 : Nat) : Int) := by
  have h15 : (BitVec.ofInt 64 15).toNat = 2 ^ 4 - 1 := by decide
  have key : (BitVec.ofInt 64 (n : Int) &&& BitVec.ofInt 64 15).toNat = n % 16 := by
    rw [BitVec.toNat_and, BitVec.toNat_ofInt, h15, Nat.and_two_pow_sub_one_eq_mod]
    omega
  show IntKind.u64.wrap ((BitVec.ofInt 64 (n : Int) &&& BitVec.ofInt 64 15).toNat : Nat) = _
  rw [key]
  rw [IntKind.wrap_u64]
  omega

/-- The last D.length bytes of 65 are told. -/
def lay65 (D : List UInt8) : List UInt8 := List.replicate (65 - D.length) 0 ++ D

theorem lay65_len (D : List UInt8) (h : D.length ≤ 65) : (lay65 D).length = 65 := by simp [lay65]; omega

theorem lay65_set (D : List UInt8) (h : D.length < 65) (x : UInt8) : (lay65 D).set (65 - D.length - 1) x = lay65 (x :: D) := by
  unfold lay65
  obtain ⟨m, hm⟩ : ∃ m, 65 - D.length = m + 1 := ⟨65 - D.length - 1, by omega⟩
  rw [hm, List.length_cons, show 65 - (D.length + 1) = m by omega, show m + 1 - 1 = m by omega, List.set_append, if_pos (by simp)]
  rw [List.replicate_succ', List.set_append, if_neg (by simp)]
  simp

theorem lay65_drop (D : List UInt8) (h : D.length ≤ 65) : (lay65 D).drop (65 - D.length) = D := by
  unfold lay65
  rw [List.drop_left' (by simp)]

theorem lay65_new (w : World) : Ascii.Held (w.alloc (.cells Tryz.zeroCells198 198)) w.heap.size (lay65 []) := by
  intro j hj
  rw [lay65_len _ (by simp)] at hj
  rw [World.cell?_alloc_at _ _ _ _ rfl, World.frozen?_alloc_at _ _ _ _ rfl]
  have key : Tryz.zeroCells198 = (List.replicate 65 (Value.int .u8 0)).toArray := by kernel_rfl
  have e : (lay65 [])[j]'(by rw [lay65_len _ (by simp)]; exact hj) = 0 := by unfold lay65; rw [List.getElem_append_left (by simpa using hj), List.getElem_replicate]
  rw [e, key, List.getElem?_toArray, List.getElem?_replicate, if_pos hj]
  exact ⟨rfl, by simp⟩

theorem dig_all : ∀ d : Fin 16, (⟨#[48, 49, 50, 51, 52, 53, 54, 55, 56, 57, 97, 98, 99, 100, 101, 102, 103, 104, 105, 106, 107, 108, 109, 110, 111, 112, 113, 114, 115, 116, 117, 118, 119, 120, 121, 122]⟩ : ByteArray)[d.val]'(Nat.lt_trans d.isLt (by decide)) = hexC d.val := by decide +kernel

theorem cut65 (g m : Nat) (h : m ≤ 64) (w : World) : (Instr.sliceAt 198 (.pointer (some ⟨g, 0, none⟩)) (some (.int .i64 m)) none none).run Tryz.prog w = .ok (.slice (some ⟨g, m, none⟩) (65 - m) (65 - m)) w := by
  have hl : Tryz.prog.arrayLen 198 = 65 := by kernel_rfl
  rw [run_sliceAt_array_l w 198 _ (by kernel_rfl) .i64 m (by omega) (by rw [hl]; omega), hl]
  have hs : (sizeOf (Tryz.prog.elem 198)).run Tryz.prog w = .ok 1 w := by kernel_rfl
  rw [hs]
  have : ¬ 65 = (m : Int).toNat := by omega
  have h2 : ¬ 65 = m := by omega
  simp [slicedAt, Result.andThen, h2, Addr.add]
  intro h0
  rw [h0]

set_option maxRecDepth 100000 in
set_option maxHeartbeats 4000000 in
theorem bits_any (n : Nat) (hn : n ≤ 65535) (w : World) (hm : w.cell? ⟨5, 15, none⟩ = some (.int .u8 4)) :
    Calls Tryz.prog 214 #[.slice none 0 0, .int .u64 n, .int .i64 16, .bool false, .bool false] w fun e W' => e = .returned (.tuple #[.slice none 0 0, .string ⟨(hexN n).toArray⟩]) ∧ Below w.heap.size w W' := by
  have HM := Lib.hid (show (w.alloc (.cells Tryz.zeroCells198 198)).cell? ⟨5, 15, none⟩ = some (.int .u8 4) by
    rw [World.cell?_alloc_past _ _ _ (World.block_lt_of_cell? _ _ hm)]; exact hm)
  clear hm
  go_enter Tryz.func214, Tryz.ntmps214
  go_wp2_with (first | (go_at_call 222; refine (pow_any _).mono ?_; rintro e w' ⟨rfl, rfl⟩) | (go_at_call 223; refine (tz_any _ HM.out).mono ?_; rintro e w' ⟨rfl, rfl⟩))
  have hB0 : Below w.heap.size w (w.alloc (.cells Tryz.zeroCells198 198)) := (Below.refl _ w).alloc (Nat.le_refl _) _
  have hH0 := lay65_new w
  go_loopw [1, 13] (fun u i wr => ∃ (D : List UInt8) (k : Nat), u = .int .u64 (k : Nat) ∧ i = .int .i64 (65 - (D.length : Int)) ∧ k ≤ 65535 ∧ Hid (hexN n = hexN k ++ D) ∧ Hid (Ascii.Held wr w.heap.size (lay65 D)) ∧ Below w.heap.size w wr) (fun u _ _ => (intOf u).toNat)
  case atStart => exact ⟨[], n, rfl, rfl, hn, Lib.hid (by simp), Lib.hid hH0, hB0⟩
  case round =>
    clear hH0 hB0 HM
    obtain ⟨D, k, rfl, rfl, hk, HN, HH, hw⟩ := hrel
    have hD : D.length ≤ 3 := by
      have h1 := congrArg List.length HN.out
      have h2 := hexN_len 3 n (by omega)
      have h3 := hexN_pos k
      rw [List.length_append] at h1
      omega
    obtain ⟨m, hmD⟩ : ∃ m : Nat, 65 - D.length = m + 1 := ⟨64 - D.length, by omega⟩
    have e1 : (65 - (D.length : Int)) - 1 = (m : Int) := by omega
    have hml : m < (lay65 D).length := by rw [lay65_len _ (by omega)]; omega
    obtain ⟨hc, hf⟩ := HH.out m hml
    generalize (lay65 D)[m].toNat = old at hc
    by_cases h16 : k < 16
    · have t1 : decide (16 ≤ (k : Int)) = false := decide_eq_false (by omega)
      have hx := Lib.hid (dig_all ⟨k, h16⟩)
      have hsl := cut65 w.heap.size m (by omega)
      have hset := Ascii.held_set HH.out m hml (hexC k)
      rw [show m = 65 - D.length - 1 by omega, lay65_set D (by omega) (hexC k), show 65 - D.length - 1 = m by omega] at hset
      have hdr := lay65_drop (hexC k :: D) (by simp; omega)
      have hlen : 65 - m = (hexC k :: D).length := by simp; omega
      have hcv := run_convert_bytes_back (P := Tryz.prog) (wr.setCell ⟨w.heap.size, m, none⟩ (.int .u8 ((hexC k).toNat : Int))) 81 9 5 ⟨w.heap.size, m, none⟩ (65 - m) (hexC k :: D) Tryz.underlying81 Tryz.underlying5 Tryz.underlying9 (fun j hj => by
        have e : (⟨w.heap.size, m, none⟩ : Addr).add j = ⟨w.heap.size, m + j, none⟩ := by unfold Addr.add; split <;> simp_all
        have hj2 : m + j < (lay65 (hexC k :: D)).length := by rw [lay65_len _ (by simp; omega)]; simp at hj; omega
        rw [e, (hset (m + j) hj2).1]
        have e3 : (hexC k :: D)[j] = (lay65 (hexC k :: D))[m + j] := by
          have h4 : 65 - (hexC k :: D).length = m := by simp; omega
          rw [h4] at hdr
          have h5 : ((lay65 (hexC k :: D)).drop m)[j]'(by simp; omega) = (lay65 (hexC k :: D))[m + j] := by simp
          rw [← h5]
          simp only [hdr]
        rw [e3])
      rw [← hlen] at hcv
      have HR := Lib.hid (show hexN n = hexC k :: D by rw [HN.out, hexN_lt h16]; rfl)
      clear hset hdr hlen
      have hx2 := hx.out
      simp only at hx2
      go_wp2
      go_ret2
      refine ⟨?_, hw.setCell (p := ⟨w.heap.size, m, none⟩) (Nat.le_refl _) _⟩
      rw [HR.out]
      rfl
    · have t1 : decide (16 ≤ (k : Int)) = true := decide_eq_true (by omega)
      have hb := u64_and15 k hk
      have hx := dig_all ⟨k % 16, by omega⟩
      simp only at hx
      have HX := Lib.hid hx
      clear hx
      go_wp2
      go_roundw
      case rel =>
        refine ⟨hexC (k % 16) :: D, k / 16, by go_num, by simp; omega, by omega, Lib.hid ?_, Lib.hid ?_, hw.setCell (p := ⟨w.heap.size, m, none⟩) (Nat.le_refl _) _⟩
        · rw [HN.out, hexN_ge h16]; simp
        · rw [HX.out]
          have hset := Ascii.held_set HH.out m hml (hexC (k % 16))
          rw [show m = 65 - D.length - 1 by omega, lay65_set D (by omega) (hexC (k % 16)), show 65 - D.length - 1 = m by omega] at hset
          exact hset
      case measure => simp [intOf]; omega

set_option maxRecDepth 100000 in
set_option maxHeartbeats 1000000 in
theorem format_in (n : Nat) (hn : n ≤ 65535) (w : World) (hm : w.cell? ⟨5, 15, none⟩ = some (.int .u8 4)) :
    Calls Tryz.prog 192 #[.int .i64 n, .int .i64 16] w fun e W' => e = .returned (.string ⟨(hexN n).toArray⟩) ∧ Below w.heap.size w W' := by
  have hb := bits_any n hn w hm
  have t1 : decide ((n : Int) < 0) = false := decide_eq_false (by omega)
  clear hm
  go_enter Tryz.func192, Tryz.ntmps192
  go_wp2_with (go_at_call 214; refine hb.mono ?_; rintro e w' ⟨rfl, hB⟩)
  go_ret
  exact ⟨rfl, hB⟩

set_option maxRecDepth 100000 in
set_option maxHeartbeats 1000000 in
/-- strconv.FormatInt at base 16. -/
theorem format_any (n : Nat) (hn : n ≤ 65535) (x : ByteArray) (hx : (⟨(hexN n).toArray⟩ : ByteArray) = x) (w : World) (hm : w.cell? ⟨5, 15, none⟩ = some (.int .u8 4)) :
    Calls Tryz.prog 169 #[.int .i64 n, .int .i64 16] w fun e W' => e = .returned (.string x) ∧ Below w.heap.size w W' := by
  subst hx
  have hb := format_in n hn w hm
  clear hm hn
  go_enter Tryz.func169, Tryz.ntmps169
  go_wp2_with (go_at_call 192; refine hb.mono ?_; rintro e w' ⟨rfl, hB⟩)
  go_ret
  exact ⟨rfl, hB⟩



/-- A row of ints as an array's cells. -/
def arr (l : List Int) : Array Value := (l.map (Value.int .i64)).toArray

theorem arr_size (l : List Int) : (arr l).size = l.length := by simp [arr]

theorem arr_at (l : List Int) (j : Nat) (h : j < l.length) : (arr l)[j]? = some (.int .i64 l[j]) := by simp [arr, h]

theorem arr_one (l : List Int) : (arr l).all (·.oneCell') = true := by
  rw [Array.all_eq_true_iff_forall_mem]
  intro v hv
  simp [arr] at hv
  obtain ⟨z, _, rfl⟩ := hv
  rfl

/-- Block g is an array of these. -/
def RowAt (W : World) (g : Nat) (l : List Int) : Prop := W.heap[g]? = some (.cells (arr l) 22 (0, 0))

theorem RowAt.cell {W : World} {g : Nat} {l : List Int} (h : RowAt W g l) (j : Nat) (hj : j < l.length) : W.cell? ⟨g, j, none⟩ = some (.int .i64 l[j]) := by
  rw [cell_of_row W g j (arr l) 22 (0, 0) h, arr_at l j hj]

theorem RowAt.frozen {W : World} {g : Nat} {l : List Int} (h : RowAt W g l) (j : Nat) : W.frozen? ⟨g, j, none⟩ = false := by
  unfold World.frozen?
  rw [show W.heap[(⟨g, j, none⟩ : Addr).block]? = _ from h]
  simp

theorem arr_set (l : List Int) (j : Nat) (z : Int) : (arr l).set! j (.int .i64 z) = arr (l.set j z) := by
  simp [arr]

theorem RowAt.set {W : World} {g : Nat} {l : List Int} (h : RowAt W g l) (j : Nat) (z : Int) : RowAt (W.setCell ⟨g, j, none⟩ (.int .i64 z)) g (l.set j z) := by
  unfold RowAt at *
  simp [World.setCell, Array.getElem?_modify, h, arr]

theorem RowAt.setOther {W : World} {g b : Nat} {l : List Int} (h : RowAt W g l) (hb : g ≠ b) (j : Nat) (v : Value) : RowAt (W.setCell ⟨b, j, none⟩ v) g l := (Below.heap_setCell W ⟨b, j, none⟩ v g hb).trans h

theorem RowAt.row {W : World} {g : Nat} {l : List Int} (h : RowAt W g l) (k : List Int) : RowAt (W.setRow g (arr k)) g k := setRow_heap W g _ _ 22 (0, 0) h

theorem RowAt.rowOther {W : World} {g b : Nat} {l : List Int} (h : RowAt W g l) (hb : g ≠ b) (k : Array Value) : RowAt (W.setRow b k) g l := by
  unfold RowAt at *
  simp [World.setRow, Array.getElem?_modify, h, Ne.symm hb]

theorem RowAt.new (w : World) (l : List Int) : RowAt (w.alloc (.cells (arr l) 22)) w.heap.size l := heap_alloc_new w _

theorem RowAt.lt {w : World} {g : Nat} {l : List Int} (h : RowAt w g l) : g < w.heap.size := (Array.getElem?_eq_some_iff.1 h).1

theorem RowAt.past {w : World} {g : Nat} {l : List Int} (h : RowAt w g l) (o : Obj) : RowAt (w.alloc o) g l := (heap_alloc_old w o h.lt).trans h

theorem RowAt.drew {w : World} {g : Nat} {l : List Int} (h : RowAt w g l) : RowAt w.drew g l := h

theorem RowAt.below {w u : World} {B g : Nat} {l : List Int} (h : RowAt w g l) (hB : Below B w u) (hg : g < B) : RowAt u g l := (hB.block g hg).trans h

theorem RowAt.later {w u : World} {g : Nat} {l : List Int} (h : RowAt w g l) (hB : Below w.heap.size w u) : RowAt u g l := h.below hB h.lt

theorem below_setRow {B : Nat} {a w : World} (h : Below B a w) {g : Nat} (hp : B ≤ g) (k : Array Value) : Below B a (w.setRow g k) :=
  h.trans ⟨rfl, rfl, rfl, by simp [World.setRow], fun j hj => by simp [World.setRow, Array.getElem?_modify, show g ≠ j by omega]⟩

theorem size22 : (Tryz.prog.info? 22).map (·.size) = some 8 := by kernel_rfl

theorem RowAt.load {w : World} {g : Nat} {l : List Int} (h : RowAt w g l) (h8 : l.length = 8) : (loadVar 22 ⟨g, 0, none⟩).run Tryz.prog w = .ok (.agg (arr l)) w :=
  run_loadVar_row w g 22 22 (arr l) (0, 0) _ h Tryz.underlying22 rfl (by rw [arr_size, h8]; exact size22)

theorem RowAt.store {w : World} {g : Nat} {l : List Int} (h : RowAt w g l) (h8 : l.length = 8) (k : List Int) (k8 : k.length = 8) : (storeVar 22 ⟨g, 0, none⟩ (.agg (arr k))).run Tryz.prog w = .ok () (w.setRow g (arr k)) :=
  run_storeVar_row w g 22 22 (arr l) (arr k) h (by rw [arr_size, k8]; exact size22) (by rw [arr_size, arr_size, h8, k8]) (arr_one k)

theorem wp_load22 {ops : Array Oper} {rest : List Oper} {o : Oper} {a : Act} {w : World} {Q : Exit → Act → World → Prop} (hgd : o.guard = none) (x : Operand) (ho : o.op = .load 22 x) (g : Nat) (hx : a.eval x = .pointer (some ⟨g, 0, none⟩))
    (l : List Int) (h8 : l.length = 8) (hr : RowAt w g l) (h : wpList Tryz.prog ops Q rest (a.put o.dst (.agg (arr l))) w) : wpList Tryz.prog ops Q (o :: rest) a w :=
  wpList_load_row hgd 22 x ho g hx 22 (arr l) (0, 0) _ hr Tryz.underlying22 rfl (by rw [arr_size, h8]; exact size22) h

theorem wp_store22 {ops : Array Oper} {rest : List Oper} {o : Oper} {a : Act} {w : World} {Q : Exit → Act → World → Prop} (hgd : o.guard = none) (x y : Operand) (ho : o.op = .store 22 x y) (g : Nat) (hx : a.eval x = .pointer (some ⟨g, 0, none⟩))
    (k : List Int) (hy : a.eval y = .agg (arr k)) (k8 : k.length = 8) (l : List Int) (h8 : l.length = 8) (hr : RowAt w g l) (h : wpList Tryz.prog ops Q rest (a.put o.dst undef) (w.setRow g (arr k))) : wpList Tryz.prog ops Q (o :: rest) a w :=
  wpList_plain hgd fun _ hK => wp_store_row 22 x y ho g (arr k) hx hy 22 (arr l) hr (by rw [arr_size, k8]; exact size22) (by rw [arr_size, arr_size, h8, k8]) (arr_one k) (hK _ _ h)

theorem zero_arr : (#[.int .i64 0, .int .i64 0, .int .i64 0, .int .i64 0, .int .i64 0, .int .i64 0, .int .i64 0, .int .i64 0] : Array Value) = arr zero8 := rfl

theorem i64_and16 (n : Int) : bits .and .i64 n 65535 = n % 65536 := by
  have h255 : (BitVec.ofInt 64 65535).toNat = 2 ^ 16 - 1 := by decide
  have key : (BitVec.ofInt 64 n &&& BitVec.ofInt 64 65535).toNat = (n % ((2 ^ 64 : Nat) : Int)).toNat % 2 ^ 16 := by
    rw [BitVec.toNat_and, BitVec.toNat_ofInt, h255, Nat.and_two_pow_sub_one_eq_mod]
  show IntKind.i64.wrap ((BitVec.ofInt 64 n &&& BitVec.ofInt 64 65535).toNat : Nat) = n % 65536
  rw [key, IntKind.wrap_i64]
  omega

def low (p : List Int) : List Int := p.map (· % 65536)

def lowTo (p : List Int) (k : Nat) : List Int := low (p.take k) ++ p.drop k

theorem lowTo_len (p : List Int) (k : Nat) (h : k ≤ p.length) : (lowTo p k).length = p.length := by simp [lowTo, low]; omega

theorem lowTo_at (p : List Int) (k : Nat) (h : k < p.length) (h' : k < (lowTo p k).length) : (lowTo p k)[k] = p[k] := by
  have e : (low (p.take k)).length = k := by simp [low]; omega
  have h1 : (lowTo p k)[k]? = some p[k] := by
    unfold lowTo
    rw [List.getElem?_append_right (by omega), e, Nat.sub_self, List.getElem?_drop, Nat.add_zero, List.getElem?_eq_getElem h]
  rw [List.getElem?_eq_getElem h'] at h1
  exact Option.some.inj h1

theorem lowTo_set (p : List Int) (k : Nat) (h : k < p.length) : (lowTo p k).set k (p[k] % 65536) = lowTo p (k + 1) := by
  have e : (low (p.take k)).length = k := by simp [low]; omega
  unfold lowTo
  rw [List.set_append_right _ _ (by omega), e, Nat.sub_self, List.drop_eq_getElem_cons h, List.set_cons_zero, List.take_succ_eq_append_getElem h]
  simp only [low, List.map_append, List.map_cons, List.map_nil, List.append_assoc, List.cons_append, List.nil_append]

theorem lowTo_all (p : List Int) (h : p.length = 8) : lowTo p 8 = low p := by unfold lowTo; rw [List.take_of_length_le (by omega), List.drop_eq_nil_of_le (by omega), List.append_nil]

set_option maxRecDepth 100000 in
set_option maxHeartbeats 2000000 in
theorem low_any (p : List Int) (h8 : p.length = 8) (w : World) : Calls Tryz.prog 168 #[.agg (arr p)] w fun e w' => e = .returned (.agg (arr (low p))) ∧ Below w.heap.size w w' := by
  have hB0 : Below w.heap.size w ((w.alloc (.cells (arr p) 22)).alloc (.cells (arr zero8) 22)) := ((Below.refl _ w).alloc (Nat.le_refl _) _).alloc (by simp) _
  have hR0 : RowAt ((w.alloc (.cells (arr p) 22)).alloc (.cells (arr zero8) 22)) w.heap.size (lowTo p 0) := (RowAt.new w p).past _
  have hZ0 : RowAt ((w.alloc (.cells (arr p) 22)).alloc (.cells (arr zero8) 22)) (w.heap.size + 1) zero8 := by
    have := RowAt.new (w.alloc (.cells (arr p) 22)) zero8
    simpa using this
  have H8 := Lib.hid h8
  have HC := Lib.hid (show (arr p).size = 8 by rw [arr_size, h8])
  clear h8
  go_enter Tryz.func168, Tryz.ntmps168
  go_wp2
  rw [zero_arr]
  go_loopw [3, 4] (fun _ i wr => ∃ k : Nat, k ≤ 8 ∧ i = .int .i64 k ∧ Hid (RowAt wr w.heap.size (lowTo p k)) ∧ Hid (RowAt wr (w.heap.size + 1) zero8) ∧ Below w.heap.size w wr) (fun _ i _ => 8 - (intOf i).toNat)
  case atStart => exact ⟨0, Nat.zero_le _, rfl, Lib.hid hR0, Lib.hid hZ0, hB0⟩
  case round =>
    clear hR0 hZ0 hB0
    obtain ⟨k, hk, rfl, HR, HZ, hw⟩ := hrel
    by_cases hlt : k < 8
    · have t1 : (k : Int) < 8 := by omega
      have hkp : k < p.length := by have := H8.out; omega
      have hkl : k < (lowTo p k).length := by rw [lowTo_len _ _ (by omega)]; exact hkp
      have hc := HR.out.cell k hkl
      rw [lowTo_at p k hkp] at hc
      have hf := HR.out.frozen k
      have HS := Lib.hid (show ∀ z, z = p[k] → (lowTo p k).set k (z % 65536) = lowTo p (k + 1) from fun z hz => by rw [hz]; exact lowTo_set p k hkp)
      obtain ⟨z, hz⟩ : ∃ z, z = p[k] := ⟨_, rfl⟩
      rw [← hz] at hc
      have HS2 := Lib.hid (HS.out z hz)
      have hand := i64_and16 z
      clear hz HS hkp hkl
      go_wp2
      go_roundw
      case rel =>
        refine ⟨k + 1, by omega, by go_num, Lib.hid ?_, Lib.hid ?_, hw.setCell (p := ⟨w.heap.size, k, none⟩) (Nat.le_refl _) _⟩
        · rw [← HS2.out]
          exact HR.out.set k _
        · exact HZ.out.setOther (by omega) _ _
      case measure => simp [intOf]; omega
    · obtain rfl : k = 8 := by omega
      have hR := HR.out
      rw [lowTo_all p H8.out] at hR
      have hl8 : (low p).length = 8 := by simp [low]; exact H8.out
      have HL8 := Lib.hid hl8
      have HR2 := Lib.hid hR
      have HW := Lib.hid (HZ.out.row (low p))
      have hB := Lib.hid (below_setRow hw (show w.heap.size ≤ w.heap.size + 1 by omega) (arr (low p)))
      clear hR hl8
      go_wp2_with (first | refine wp_load22 rfl _ rfl _ rfl (low p) HL8.out HR2.out ?_ | refine wp_store22 rfl _ _ rfl _ rfl (low p) rfl HL8.out zero8 rfl HZ.out ?_)
      refine bodyPost_ret (results_cell_row Tryz.results168 _ _ _ 22 (arr (low p)) (0, 0) _ rfl HW.out Tryz.underlying22 rfl (by rw [arr_size, HL8.out]; exact size22)) rfl ⟨rfl, hB.out⟩



theorem part3 (l : List Int) (i : Nat) (h : i < l.length) (w : World) : (part 3 (arr l) (i * 1)).run Tryz.prog w = .ok (.int .i64 l[i]) w := by
  have e : (arr l)[i]? = some (.int .i64 l[i]) := arr_at l i h
  have hs : (sizeOf 3).run Tryz.prog w = .ok 1 w := by kernel_rfl
  have ha : (isAgg 3).run Tryz.prog w = .ok false w := by kernel_rfl
  simp [part, Sem.run_bind, ha, hs, e]

theorem items3 (d : Nat) (p q : List Int) (hl : p.length = q.length) (is : List Nat) (h : ∀ i ∈ is, i < p.length) (w : World) : (Op.eqItems (d + 1) 3 1 (arr p) (arr q) is).run Tryz.prog w = .ok (is.all fun i => p.getD i 0 == q.getD i 0) w := by
  induction is with
  | nil => simp [Op.eqItems]
  | cons i is ih =>
    have hi := h i (by simp)
    have hq : i < q.length := by omega
    simp only [Op.eqItems, Sem.run_bind, part3 p i hi, part3 q i hq, Result.andThen_ok, run_equalIn_int w d 3 .i64 .i64 _ _ Tryz.underlying3, List.all_cons, List.getD_eq_getElem?_getD, List.getElem?_eq_getElem hi, List.getElem?_eq_getElem hq, Option.getD_some]
    cases p[i] == q[i]
    · simp
    · simp [ih fun j hj => h j (List.mem_cons_of_mem _ hj)]

set_option maxRecDepth 100000 in
theorem eq22 (p q : List Int) (hp : p.length = 8) (hq : q.length = 8) (b : Bool) (hb : decide (p = q) = b) (w : World) : (Op.equalIn 10000 22 (.agg (arr p)) (.agg (arr q))).run Tryz.prog w = .ok b w := by
  obtain ⟨i, hi⟩ : ∃ i, Tryz.prog.info? 3 = some i := by
    cases e : Tryz.prog.info? 3 with
    | some i => exact ⟨i, rfl⟩
    | none =>
      have : (Tryz.prog.info? 3).isSome = true := by kernel_rfl
      rw [e] at this
      cases this
  rw [show (10000 : Nat) = 9999 + 1 from rfl, run_equalIn_array w 9999 (arr p) (arr q) Tryz.underlying22 hi, show Tryz.prog.cellsOf 3 = 1 by kernel_rfl, items3 9998 p q (by omega) _ (by intro j hj; simp at hj; omega), ← hb]
  congr 1
  match p, hp, q, hq with
  | [a0, a1, a2, a3, a4, a5, a6, a7], _, [b0, b1, b2, b3, b4, b5, b6, b7], _ => simp [List.range, List.range.loop]; rfl

theorem low_may (p : List Int) (h8 : p.length = 8) : decide (p = low p) = mayP p := by
  rw [Bool.eq_iff_iff, decide_eq_true_iff, may_iff]
  constructor
  · intro h z hz
    rw [h] at hz
    obtain ⟨y, _, rfl⟩ := List.mem_map.1 hz
    omega
  · intro h
    unfold low
    conv => lhs; rw [← List.map_id p]
    refine List.map_congr_left fun z hz => ?_
    have := h z hz
    simp only [id]
    omega

theorem low_len (p : List Int) : (low p).length = p.length := by simp [low]

/-- The eight cells. -/
theorem RowAt.eight {w : World} {g : Nat} {a0 a1 a2 a3 a4 a5 a6 a7 : Int} (h : RowAt w g [a0, a1, a2, a3, a4, a5, a6, a7]) :
    w.cell? ⟨g, 0, none⟩ = some (.int .i64 a0) ∧ w.cell? ⟨g, 1, none⟩ = some (.int .i64 a1) ∧ w.cell? ⟨g, 2, none⟩ = some (.int .i64 a2) ∧ w.cell? ⟨g, 3, none⟩ = some (.int .i64 a3) ∧
    w.cell? ⟨g, 4, none⟩ = some (.int .i64 a4) ∧ w.cell? ⟨g, 5, none⟩ = some (.int .i64 a5) ∧ w.cell? ⟨g, 6, none⟩ = some (.int .i64 a6) ∧ w.cell? ⟨g, 7, none⟩ = some (.int .i64 a7) :=
  ⟨h.cell 0 (by simp), h.cell 1 (by simp), h.cell 2 (by simp), h.cell 3 (by simp), h.cell 4 (by simp), h.cell 5 (by simp), h.cell 6 (by simp), h.cell 7 (by simp)⟩

set_option maxRecDepth 100000 in
set_option maxHeartbeats 2000000 in
theorem may_in (a0 a1 a2 a3 a4 a5 a6 a7 : Int) (w : World) : Calls Tryz.prog 148 #[.agg #[.int .i64 a0, .int .i64 a1, .int .i64 a2, .int .i64 a3, .int .i64 a4, .int .i64 a5, .int .i64 a6, .int .i64 a7]] w fun e w' => e = .returned (.bool (mayP [a0, a1, a2, a3, a4, a5, a6, a7])) ∧ Below w.heap.size w w' := by
  obtain ⟨b, hb⟩ : ∃ b, mayP [a0, a1, a2, a3, a4, a5, a6, a7] = b := ⟨_, rfl⟩
  obtain ⟨L, hL⟩ : ∃ L, arr (low [a0, a1, a2, a3, a4, a5, a6, a7]) = L := ⟨_, rfl⟩
  have hlow := fun u => low_any [a0, a1, a2, a3, a4, a5, a6, a7] rfl u
  rw [hL] at hlow
  have heq := fun u => eq22 [a0, a1, a2, a3, a4, a5, a6, a7] (low [a0, a1, a2, a3, a4, a5, a6, a7]) rfl (low_len _) b (by rw [low_may _ rfl, hb]) u
  rw [hL] at heq
  have heq' : ∀ u, (Op.equalIn 10000 22 (.agg #[.int .i64 a0, .int .i64 a1, .int .i64 a2, .int .i64 a3, .int .i64 a4, .int .i64 a5, .int .i64 a6, .int .i64 a7]) (.agg L)).run Tryz.prog u = .ok b u := heq
  have HR := Lib.hid (show RowAt (w.alloc (.cells #[.int .i64 a0, .int .i64 a1, .int .i64 a2, .int .i64 a3, .int .i64 a4, .int .i64 a5, .int .i64 a6, .int .i64 a7] 22)) w.heap.size [a0, a1, a2, a3, a4, a5, a6, a7] from RowAt.new w [a0, a1, a2, a3, a4, a5, a6, a7])
  have HB := Lib.hid (show Below w.heap.size w (w.alloc (.cells #[.int .i64 a0, .int .i64 a1, .int .i64 a2, .int .i64 a3, .int .i64 a4, .int .i64 a5, .int .i64 a6, .int .i64 a7] 22)) from (Below.refl _ w).alloc (Nat.le_refl _) _)
  have hl := Lib.hid hlow
  rw [hb]
  clear hb hL heq hlow
  go_enter Tryz.func148, Tryz.ntmps148
  go_wp2_with fail
  generalize w.alloc (.cells #[.int .i64 a0, .int .i64 a1, .int .i64 a2, .int .i64 a3, .int .i64 a4, .int .i64 a5, .int .i64 a6, .int .i64 a7] 22) = W at HR HB ⊢
  obtain ⟨c0, c1, c2, c3, c4, c5, c6, c7⟩ := HR.out.eight
  go_region_with (go_at_call 168; refine (hl.out _).mono ?_; rintro e w2 ⟨rfl, hB2⟩; obtain ⟨d0, d1, d2, d3, d4, d5, d6, d7⟩ := (HR.out.drew.later hB2).eight)
  all_goals
    go_wp2
    go_ret
    exact ⟨rfl, HB.out.drew.trans (hB2.mono HB.out.size)⟩



theorem zr_le (l : List Int) : zr l ≤ l.length := by
  induction l with
  | nil => simp [zr]
  | cons x r ih => unfold zr; split <;> simp <;> omega

theorem zr_step (l : List Int) (j : Nat) (hj : j ≤ zr l) (hl : j < l.length) : (l[j] = 0 → j + 1 ≤ zr l) ∧ (l[j] ≠ 0 → zr l = j) := by
  induction l generalizing j with
  | nil => simp at hl
  | cons x r ih =>
    cases j with
    | zero =>
      simp only [List.getElem_cons_zero, zr]
      by_cases h : x = 0
      · rw [if_pos h]; exact ⟨fun _ => by omega, fun e => absurd h e⟩
      · rw [if_neg h]; exact ⟨fun e => absurd e h, fun _ => rfl⟩
    | succ j =>
      by_cases h : x = 0
      · simp only [zr, if_pos h] at hj ⊢
        have := ih j (by omega) (by simpa using hl)
        simp only [List.getElem_cons_succ]
        exact ⟨fun e => by have := this.1 e; omega, fun e => by have := this.2 e; omega⟩
      · simp only [zr, if_neg h] at hj
        omega

theorem zr_drop (p : List Int) (h8 : p.length = 8) (k j : Nat) (hj : j ≤ zr (p.drop k)) (hk : k + j < 8) (z : Int) (hz : ∀ h : k + j < p.length, p[k + j] = z) : (z = 0 → j + 1 ≤ zr (p.drop k)) ∧ (z ≠ 0 → zr (p.drop k) = j) := by
  have := zr_step (p.drop k) j hj (by simp; omega)
  rw [List.getElem_drop, hz (by omega)] at this
  exact this

theorem zr_room (p : List Int) (h8 : p.length = 8) (k : Nat) : zr (p.drop k) ≤ 8 - k := by
  have := zr_le (p.drop k)
  simp [h8] at this
  exact this

theorem better_next (s : Nat × Nat) (k j : Nat) : (if (better s k j).2 < j + 1 then (k, j + 1) else better s k j) = better s k (j + 1) := by
  unfold better
  by_cases h : s.2 < j
  · rw [if_pos h, if_pos (by simp), if_pos (by omega)]
  · rw [if_neg h]

theorem better_zero (s : Nat × Nat) (k : Nat) : better s k 0 = s := by unfold better; rw [if_neg (by omega)]

theorem st_pos (p : List Int) (i : Nat) : 1 ≤ (st p i).2 := by
  induction i with
  | zero => exact Nat.le_refl _
  | succ i ih => unfold st better; split <;> (try simp only) <;> omega

theorem st_le (p : List Int) (h8 : p.length = 8) (i : Nat) (hi : i ≤ 8) : (st p i).1 ≤ 8 ∧ (st p i).2 ≤ 8 := by
  induction i with
  | zero => exact ⟨by simp [st], by simp [st]⟩
  | succ i ih =>
    have := ih (by omega)
    have h2 := zr_room p h8 i
    unfold st better
    split <;> (try simp only) <;> omega

set_option maxRecDepth 100000 in
set_option maxHeartbeats 4000000 in
theorem run_any (p : List Int) (h8 : p.length = 8) (w : World) : Calls Tryz.prog 149 #[.agg (arr p)] w fun e w' => e = .returned (.tuple #[.int .i64 (runP p).1, .int .i64 (runP p).2]) ∧ Below w.heap.size w w' := by
  have HB := Lib.hid (show Below w.heap.size w (w.alloc (.cells (arr p) 22)) from (Below.refl _ w).alloc (Nat.le_refl _) _)
  have HR := Lib.hid (RowAt.new w p)
  have H8 := Lib.hid h8
  clear h8
  go_enter Tryz.func149, Tryz.ntmps149
  go_wp2
  generalize w.alloc (.cells (arr p) 22) = W at HB HR ⊢
  go_step3
  go_wp2
  go_step3
  go_wp2
  go_loopg [4, 5, 6, 7, 8] 8 (fun g a l _ _ i wr => ∃ k A L : Nat, k + g = 8 ∧ i = .int .i64 k ∧ a = .int .i64 A ∧ l = .int .i64 L ∧ Hid (st p k = (A, L)) ∧ wr = W)
  case atStart => exact ⟨0, 0, 1, rfl, rfl, rfl, rfl, Lib.hid rfl, rfl⟩
  case round =>
    obtain ⟨k, A, L, hk, rfl, rfl, rfl, HS, rfl⟩ := hrel
    by_cases hlt : k < 8
    · have t1 : (k : Int) < 8 := by omega
      obtain ⟨g, rfl⟩ : ∃ g, gk = g + 1 := ⟨gk - 1, by omega⟩
      go_wp2
      go_loopg [4, 5, 7] (8 - k) (fun g a l n wr2 => ∃ j A' L' : Nat, j + g = 8 - k ∧ n = .int .i64 ((j : Int) + 1) ∧ a = .int .i64 A' ∧ l = .int .i64 L' ∧ Hid (better (st p k) k j = (A', L') ∧ j ≤ zr (p.drop k)) ∧ wr2 = wr)
      case atStart => exact ⟨0, A, L, by omega, rfl, rfl, rfl, Lib.hid ⟨by rw [better_zero, HS.out], Nat.zero_le _⟩, rfl⟩
      case round =>
        obtain ⟨j, A', L', hj, rfl, rfl, rfl, HI, rfl⟩ := hrel
        have hz := zr_room p H8.out k
        by_cases hjk : k + j < 8
        · have t2 : (k : Int) + ((j : Int) + 1) ≤ 8 := by omega
          have hkp : k + j < p.length := by have := H8.out; omega
          have hc := HR.out.cell (k + j) hkp
          have e1 : (k : Int) + ((j : Int) + 1) - 1 = ((k + j : Nat) : Int) := by omega
          obtain ⟨z, hzz⟩ : ∃ z, p[k + j] = z := ⟨_, rfl⟩
          rw [hzz] at hc
          have HZ := Lib.hid (zr_drop p H8.out k j HI.out.2 hjk z (fun _ => hzz))
          clear hzz hkp hz
          by_cases h0 : z = 0
          · subst h0
            have HZ1 := Lib.hid (HZ.out.1 rfl)
            clear HZ
            by_cases hL : L' < j + 1
            · have t3 : decide ((L' : Int) < (j : Int) + 1) = true := decide_eq_true (by omega)
              go_wp2
              go_roundg (gk - 1)
              case measure => omega
              case rel =>
                refine ⟨j + 1, k, j + 1, by omega, by go_num, by go_num, by go_num, Lib.hid ⟨?_, HZ1.out⟩, rfl⟩
                rw [← better_next, HI.out.1, if_pos hL]
            · have t3 : decide ((L' : Int) < (j : Int) + 1) = false := decide_eq_false (by omega)
              go_wp2
              go_roundg (gk - 1)
              case measure => omega
              case rel =>
                refine ⟨j + 1, A', L', by omega, by go_num, by go_num, by go_num, Lib.hid ⟨?_, HZ1.out⟩, rfl⟩
                rw [← better_next, HI.out.1, if_neg hL]
          · have t4 : (z != 0) = true := by simpa using h0
            have hzr := Lib.hid (HZ.out.2 h0)
            clear h0
            go_wp2
            go_roundg g
            case measure => omega
            case rel =>
              refine ⟨k + 1, A', L', by omega, by go_num, rfl, rfl, Lib.hid ?_, rfl⟩
              show better (st p k) k (zr (p.drop k)) = _
              rw [hzr.out]
              exact HI.out.1
        · have t2 : decide ((k : Int) + ((j : Int) + 1) ≤ 8) = false := decide_eq_false (by omega)
          have hzr := Lib.hid (show zr (p.drop k) = j by have := HI.out.2; omega)
          clear hz
          go_wp2
          go_roundg g
          case measure => omega
          case rel =>
            refine ⟨k + 1, A', L', by omega, by go_num, rfl, rfl, Lib.hid ?_, rfl⟩
            show better (st p k) k (zr (p.drop k)) = _
            rw [hzr.out]
            exact HI.out.1
    · obtain rfl : k = 8 := by omega
      have hL : L = 1 ∨ 2 ≤ L := by
        have := st_pos p 8
        rw [HS.out] at this
        simp at this
        omega
      have HP := Lib.hid (show runP p = if L = 1 then (0, 0) else (A, L) by unfold runP; rw [HS.out])
      rcases hL with rfl | hL
      · go_wp2
        try rw [Exit.noGoto_ret]
        go_ret2
        rw [HP.out]
        exact ⟨rfl, HB.out⟩
      · have t2 : ((L : Int) == 1) = false := beq_false_of_ne (by omega)
        go_wp2
        try rw [Exit.noGoto_ret]
        go_ret2
        rw [HP.out, if_neg (by omega)]
        exact ⟨rfl, HB.out⟩

/-- As the document's loop has it. -/
def stR (p : List Int) (i : Nat) : Nat × Nat := if (st p i).2 = 1 then (0, 0) else st p i

theorem stR_next (p : List Int) (k A L n : Nat) (h : stR p k = (A, L)) (hn : zr (p.drop k) = n) : stR p (k + 1) = if L < n ∧ 1 < n then (k, n) else (A, L) := by
  have h1 := st_pos p k
  unfold stR at h ⊢
  unfold st better
  rw [hn]
  generalize st p k = s at h h1
  obtain ⟨a, b⟩ := s
  simp only at h h1 ⊢
  by_cases e : b = 1
  · rw [if_pos e] at h
    cases h
    by_cases e2 : b < n
    · rw [if_pos e2, if_neg (by simp; omega), if_pos (by omega)]
    · rw [if_neg e2, if_pos e, if_neg (by omega)]
  · rw [if_neg e, Prod.mk.injEq] at h
    obtain ⟨rfl, rfl⟩ := h
    by_cases e2 : b < n
    · rw [if_pos e2, if_neg (by simp; omega), if_pos (by omega)]
    · rw [if_neg e2, if_neg e, if_neg (by omega)]

theorem stR_le (p : List Int) (h8 : p.length = 8) (k : Nat) (hk : k ≤ 8) (A L : Nat) (h : stR p k = (A, L)) : A ≤ 8 ∧ L ≤ 8 := by
  have := st_le p h8 k hk
  unfold stR at h
  split at h
  · cases h; omega
  · rw [h] at this; exact this

set_option maxRecDepth 100000 in
set_option maxHeartbeats 4000000 in
theorem refRun_any (p : List Int) (h8 : p.length = 8) (w : World) : Calls Tryz.prog 105 #[.agg (arr p)] w fun e w' => e = .returned (.tuple #[.int .i64 (runP p).1, .int .i64 (runP p).2]) ∧ Below w.heap.size w w' := by
  have HB := Lib.hid (show Below w.heap.size w (w.alloc (.cells (arr p) 22)) from (Below.refl _ w).alloc (Nat.le_refl _) _)
  have HR := Lib.hid (RowAt.new w p)
  have H8 := Lib.hid h8
  clear h8
  go_enter Tryz.func105, Tryz.ntmps105
  go_wp2
  generalize w.alloc (.cells (arr p) 22) = W at HB HR ⊢
  go_loopg [4, 5, 6, 7] 8 (fun g a l i _ wr => ∃ k A L : Nat, k + g = 8 ∧ i = .int .i64 k ∧ a = .int .i64 A ∧ l = .int .i64 L ∧ Hid (stR p k = (A, L)) ∧ wr = W)
  case atStart => exact ⟨0, 0, 0, rfl, rfl, rfl, rfl, Lib.hid rfl, rfl⟩
  case round =>
    obtain ⟨k, A, L, hk, rfl, rfl, rfl, HS, rfl⟩ := hrel
    by_cases hlt : k < 8
    · have t1 : (k : Int) < 8 := by omega
      obtain ⟨g, rfl⟩ : ∃ g, gk = g + 1 := ⟨gk - 1, by omega⟩
      go_wp2
      go_loopg [7] (8 - k) (fun g n wr2 => ∃ j : Nat, j + g = 8 - k ∧ n = .int .i64 j ∧ Hid (j ≤ zr (p.drop k)) ∧ wr2 = wr)
      case atStart => exact ⟨0, by omega, rfl, Lib.hid (Nat.zero_le _), rfl⟩
      case round =>
        obtain ⟨j, hj, rfl, HI, rfl⟩ := hrel
        have hz := zr_room p H8.out k
        have hend : (k + j < 8 ∧ ∃ z, p[k + j]? = some z ∧ z = 0 ∧ j + 1 ≤ zr (p.drop k)) ∨ (k + j < 8 ∧ ∃ z, p[k + j]? = some z ∧ z ≠ 0 ∧ zr (p.drop k) = j) ∨ (¬ k + j < 8 ∧ zr (p.drop k) = j) := by
          by_cases hjk : k + j < 8
          · have hkp : k + j < p.length := by have := H8.out; omega
            have hzd := zr_drop p H8.out k j HI.out hjk p[k + j] (fun _ => rfl)
            by_cases h0 : p[k + j] = 0
            · exact .inl ⟨hjk, _, List.getElem?_eq_getElem hkp, h0, hzd.1 h0⟩
            · exact .inr (.inl ⟨hjk, _, List.getElem?_eq_getElem hkp, h0, hzd.2 h0⟩)
          · exact .inr (.inr ⟨hjk, by have := HI.out; omega⟩)
        clear hz
        rcases hend with ⟨hjk, z, hz, rfl, hzr⟩ | hend
        · have t2 : decide ((k : Int) + (j : Int) < 8) = true := decide_eq_true (by omega)
          have hc : wr.cell? ⟨w.heap.size, k + j, none⟩ = some (.int .i64 0) := by
            obtain ⟨h1, h2⟩ := List.getElem?_eq_some_iff.1 hz
            rw [HR.out.cell _ h1, h2]
          have HZ := Lib.hid hzr
          clear hz hzr
          go_wp2
          go_roundg (gk - 1)
          case measure => omega
          case rel => exact ⟨j + 1, by omega, by go_num, HZ, rfl⟩
        · have hzr : zr (p.drop k) = j := by rcases hend with ⟨_, _, _, _, h⟩ | ⟨_, h⟩ <;> exact h
          have HN := Lib.hid (stR_next p k A L j HS.out hzr)
          have hle := stR_le p H8.out k (by omega) A L HS.out
          have hend2 : (∃ z : Int, (k : Int) + (j : Int) < 8 ∧ decide ((k : Int) + (j : Int) < 8) = true ∧ wr.cell? ⟨w.heap.size, k + j, none⟩ = some (.int .i64 z) ∧ (z == 0) = false) ∨ decide ((k : Int) + (j : Int) < 8) = false := by
            rcases hend with ⟨h1, z, hz, h0, _⟩ | ⟨h1, _⟩
            · obtain ⟨h2, h3⟩ := List.getElem?_eq_some_iff.1 hz
              exact .inl ⟨z, by omega, decide_eq_true (by omega), by rw [HR.out.cell _ h2, h3], beq_false_of_ne h0⟩
            · exact .inr (decide_eq_false (by omega))
          have hcond : (decide (L < j) = true ∧ decide (1 < (j : Int)) = true ∧ Hid (L < j ∧ 1 < j)) ∨ (decide (L < j) = false ∧ Hid (¬ (L < j ∧ 1 < j))) ∨ (decide (L < j) = true ∧ decide (1 < (j : Int)) = false ∧ Hid (¬ (L < j ∧ 1 < j))) := by
            by_cases h1 : L < j
            · by_cases h2 : 1 < j
              · exact .inl ⟨decide_eq_true (by omega), decide_eq_true (by omega), ⟨h1, h2⟩⟩
              · exact .inr (.inr ⟨decide_eq_true (by omega), decide_eq_false (by omega), fun h => h2 h.2⟩)
            · exact .inr (.inl ⟨decide_eq_false (by omega), fun h => h1 h.1⟩)
          clear hend hzr
          rcases hend2 with ⟨z, t0, t2, hc, t3⟩ | t2
          all_goals
            rcases hcond with ⟨d1, d2, d3⟩ | ⟨d1, d3⟩ | ⟨d1, d2, d3⟩
            · go_wp2
              go_roundg g
              case measure => omega
              case rel => exact ⟨k + 1, k, j, by omega, by go_num, by go_num, by go_num, Lib.hid (by rw [HN.out, if_pos d3.out]), rfl⟩
            · go_wp2
              go_roundg g
              case measure => omega
              case rel => exact ⟨k + 1, A, L, by omega, by go_num, rfl, rfl, Lib.hid (by rw [HN.out, if_neg d3.out]), rfl⟩
            · go_wp2
              go_roundg g
              case measure => omega
              case rel => exact ⟨k + 1, A, L, by omega, by go_num, rfl, rfl, Lib.hid (by rw [HN.out, if_neg d3.out]), rfl⟩
    · obtain rfl : k = 8 := by omega
      have HP := Lib.hid (show runP p = (A, L) from HS.out)
      go_wp2
      go_ret2
      rw [HP.out]
      exact ⟨rfl, HB.out⟩




/-- Whether the seat's rows list math/bits.deBruijn64tab. -/
def Known : Prop := True

theorem known : Known := trivial 

/-- What the calls read of the listed variables: internal/bytealg.MaxLen holds an int, and, where it is listed, math/bits.deBruijn64tab 4 at place 15. -/
structure At (m : Int) (w : World) : Prop where
  max : w.cell? ⟨0, 0, none⟩ = some (.int .i64 m)
  tab : Known → w.cell? ⟨5, 15, none⟩ = some (.int .u8 4)

theorem At.later {m : Int} {w u : World} (h : At m w) (hB : Below w.heap.size w u) : At m u :=
  ⟨(hB.cell (p := ⟨0, 0, none⟩) (World.block_lt_of_cell? _ _ h.max)).trans h.max, fun k => (hB.cell (p := ⟨5, 15, none⟩) (World.block_lt_of_cell? _ _ (h.tab k))).trans (h.tab k)⟩

theorem At.drew {m : Int} {w : World} (h : At m w) : At m w.drew := ⟨h.max, h.tab⟩

/-- The table told, in any case. -/
structure AtT (m : Int) (w : World) : Prop where
  max : w.cell? ⟨0, 0, none⟩ = some (.int .i64 m)
  tab : w.cell? ⟨5, 15, none⟩ = some (.int .u8 4)

theorem AtT.later {m : Int} {w u : World} (h : AtT m w) (hB : Below w.heap.size w u) : AtT m u :=
  ⟨(hB.cell (p := ⟨0, 0, none⟩) (World.block_lt_of_cell? _ _ h.max)).trans h.max, (hB.cell (p := ⟨5, 15, none⟩) (World.block_lt_of_cell? _ _ h.tab)).trans h.tab⟩

theorem At.full {m : Int} {w : World} (h : At m w) (k : Known) : AtT m w := ⟨h.max, h.tab k⟩

/-- Block g holds the texts l, and they may be written. -/
def HeldS (W : World) (g : Nat) (l : List ByteArray) : Prop := ∀ j (h : j < l.length), W.cell? ⟨g, j, none⟩ = some (.string l[j]) ∧ W.frozen? ⟨g, j, none⟩ = false

theorem heldS_set {W : World} {g : Nat} {l : List ByteArray} (h : HeldS W g l) (k : Nat) (hk : k < l.length) (x : ByteArray) : HeldS (W.setCell ⟨g, k, none⟩ (.string x)) g (l.set k x) := by
  intro j hj
  have hj' : j < l.length := by simpa using hj
  refine ⟨?_, by rw [World.frozen?_setCell]; exact (h j hj').2⟩
  by_cases e : j = k
  · subst e
    rw [World.cell?_setCell_same (h := (h j hj').1)]
    simp
  · rw [World.cell?_setCell_other (h := fun h => e (by cases h; rfl)), (h j hj').1]
    rw [List.getElem_set_ne (by omega)]

theorem heldS_below {W W' : World} {g : Nat} {l : List ByteArray} (h : HeldS W g l) {B : Nat} (hB : Below B W W') (hg : g < B) : HeldS W' g l :=
  fun j hj => ⟨(hB.cell (p := ⟨g, j, none⟩) hg).trans (h j hj).1, (hB.frozen (p := ⟨g, j, none⟩) hg).trans (h j hj).2⟩

theorem made_strings (n : Nat) : madeCells (Value.string ByteArray.empty).cells n = (Array.replicate n (Value.string ⟨#[]⟩)) := by
  apply Array.ext
  · simp [madeCells]
  · intro i h1 h2
    simp [madeCells, Value.cells, Nat.mod_one]
    rfl

theorem heldS_new (w : World) (n : Nat) (t : TypeId) : HeldS (w.alloc (.cells (Array.replicate n (Value.string ⟨#[]⟩)) t)) w.heap.size (List.replicate n ⟨#[]⟩) := by
  intro j hj
  simp at hj
  rw [World.cell?_alloc_at _ _ _ _ rfl, World.frozen?_alloc_at _ _ _ _ rfl]
  simp [hj]

theorem make_strings (n : Nat) (hn : n ≤ 8) (w : World) : (Instr.makeSlice 25 (.int .i64 (n : Int)) (.int .i64 (n : Int))).run Tryz.prog w = .ok (.slice (some ⟨w.heap.size, 0, none⟩) n n) (w.alloc (.cells (Array.replicate n (Value.string ⟨#[]⟩)) 9)) := by
  have hi9 : (Tryz.prog.info? 9).map (fun i => (i.zero, i.size, i.bytes)) = some (some (.string ByteArray.empty), 1, 16) := by kernel_rfl
  obtain ⟨i0, hi, hx⟩ := Option.map_eq_some_iff.1 hi9
  simp only [Prod.mk.injEq] at hx
  obtain ⟨hz0, hz1, hz2⟩ := hx
  rw [run_make w 25 9 i0 _ Tryz.underlying25 hi hz0 .i64 .i64 n n (by omega) (Int.le_refl _) (by rw [hz2]; omega) (by omega), hz1, show ((n : Int)).toNat = n by omega, Nat.mul_one, made_strings]

def txt (z : Int) : ByteArray := ⟨(hexN z.toNat).toArray⟩

def rowS (p : List Int) (k : Nat) : List ByteArray := (p.take k).map txt ++ List.replicate (p.length - k) ⟨#[]⟩

theorem rowS_len (p : List Int) (k : Nat) (h : k ≤ p.length) : (rowS p k).length = p.length := by simp [rowS]; omega

theorem rowS_set (p : List Int) (k : Nat) (h : k < p.length) : (rowS p k).set k (txt p[k]) = rowS p (k + 1) := by
  have e : ((p.take k).map txt).length = k := by simp; omega
  obtain ⟨m, hm⟩ : ∃ m, p.length - k = m + 1 := ⟨p.length - k - 1, by omega⟩
  unfold rowS
  rw [List.set_append_right _ _ (by omega), e, Nat.sub_self, hm, List.replicate_succ, List.set_cons_zero, List.take_succ_eq_append_getElem h, show p.length - (k + 1) = m by omega]
  simp only [List.map_append, List.map_cons, List.map_nil, List.append_assoc, List.cons_append, List.nil_append]

theorem rowS_all (p : List Int) : rowS p p.length = p.map txt := by simp [rowS]

theorem rowS_texts (p : List Int) : (p.map txt).map (·.data.toList) = texts p := by
  unfold texts
  rw [List.map_map]
  rfl

theorem joinS_at (p : List Int) (hp : p.length ≤ 8) (hm : mayP p = true) (g : Nat) (w : World) (hg : g < w.heap.size) (h : HeldS w g (p.map txt)) :
    Calls Tryz.prog 147 #[.slice (some ⟨g, 0, none⟩) p.length p.length, .string ⟨#[58]⟩] w fun e W' => e = .returned (.string ⟨(joinC (texts p)).toArray⟩) ∧ Below w.heap.size w W' := by
  have e : Lib.join ((p.map txt).map (·.data.toList)) (⟨#[58]⟩ : ByteArray).data.toList = joinC (texts p) := by
    rw [rowS_texts]
    exact joinC_lib _
  have h4 : ∀ t ∈ texts p, t.length ≤ 4 := fun t ht => ((okP_iff t).1 (List.all_eq_true.1 (texts_okP p hm) t ht)).2.1
  have hs := lens_le _ 4 h4
  have hl : (joinC (texts p)).length ≤ 100 := by
    rw [joinC_len]
    have : (texts p).length = p.length := by simp [texts]
    omega
  have hlm : (p.map txt).length = p.length := by simp
  have := Tryz.strings_Join g 0 p.length (p.map txt) ⟨#[58]⟩ w (fun j x hj => by
    obtain ⟨hlt, ex⟩ := List.getElem?_eq_some_iff.1 hj
    rw [Nat.zero_add, (h j hlt).1, ex]) hg (by rw [hlm]; omega) (by rw [hlm]; omega) (by rw [e]; omega)
  rw [e, hlm] at this
  exact this

set_option maxRecDepth 100000 in
set_option maxHeartbeats 2000000 in
theorem join_any (p : List Int) (hp : p.length ≤ 8) (hm : mayP p = true) (g o cap : Nat) (m : Int) (w : World) (hat : AtT m w) (hg : g < w.heap.size) (hc : ∀ j (h : j < p.length), w.cell? ⟨g, o + j, none⟩ = some (.int .i64 p[j])) :
    Calls Tryz.prog 150 #[.slice (some ⟨g, o, none⟩) p.length cap] w fun e W' => e = .returned (.string ⟨(joinC (texts p)).toArray⟩) ∧ Below w.heap.size w W' := by
  have hmk := make_strings p.length hp w
  have hB0 : Below w.heap.size w (w.alloc (.cells (Array.replicate p.length (Value.string ⟨#[]⟩)) 9)) := (Below.refl _ w).alloc (Nat.le_refl _) _
  have hH0 : HeldS (w.alloc (.cells (Array.replicate p.length (Value.string ⟨#[]⟩)) 9)) w.heap.size (rowS p 0) := heldS_new w p.length 9
  have hs0 : w.heap.size < (w.alloc (.cells (Array.replicate p.length (Value.string ⟨#[]⟩)) 9)).heap.size := by simp
  have HP := Lib.hid hp
  have HM := Lib.hid hm
  have HAt := Lib.hid hat
  have HG := Lib.hid hg
  have HC := Lib.hid hc
  obtain ⟨n, hn⟩ : ∃ n, p.length = n := ⟨_, rfl⟩
  have HN := Lib.hid hn
  rw [hn] at hmk hB0 hH0 hs0 hp ⊢
  clear hm hat hg hc hn
  go_enter Tryz.func150, Tryz.ntmps150
  go_wp2
  clear hmk
  generalize w.alloc (.cells (Array.replicate n (Value.string ⟨#[]⟩)) 9) = W at hB0 hH0 hs0 ⊢
  go_loopw [4, 5, 11] (fun _ _ i wr => ∃ k : Nat, k ≤ n ∧ i = .int .i64 k ∧ Hid (HeldS wr w.heap.size (rowS p k)) ∧ Hid (w.heap.size < wr.heap.size) ∧ Below w.heap.size w wr) (fun _ _ i _ => n - (intOf i).toNat)
  case atStart => exact ⟨0, Nat.zero_le _, rfl, Lib.hid hH0, Lib.hid hs0, hB0⟩
  case round =>
    clear hH0 hB0 hs0
    obtain ⟨k, hk, rfl, HH, HS, hw⟩ := hrel
    by_cases hlt : k < n
    · have t1 : (k : Int) < (n : Int) := by omega
      have hkp : k < p.length := by have := HN.out; omega
      have hcell := (hw.cell (p := ⟨g, o + k, none⟩) HG.out).trans (HC.out k hkp)
      have HSet := Lib.hid (rowS_set p k hkp)
      obtain ⟨z, hz⟩ : ∃ z, p[k] = z := ⟨_, rfl⟩
      have hzb := (may_iff p).1 HM.out z (by rw [← hz]; exact List.getElem_mem hkp)
      rw [hz] at hcell
      obtain ⟨q, rfl⟩ : ∃ q : Nat, z = (q : Int) := ⟨z.toNat, by omega⟩
      have HSet2 := Lib.hid (show (rowS p k).set k (txt (q : Int)) = rowS p (k + 1) by rw [← hz]; exact HSet.out)
      have hf := format_any q (by omega) (txt (q : Int)) (by unfold txt; rw [show ((q : Int)).toNat = q by omega]) wr (HAt.out.later hw).tab
      have HK := Lib.hid (show k < (rowS p k).length by rw [rowS_len _ _ (by omega)]; exact hkp)
      clear HSet hz hzb hkp
      go_wp2_with (go_at_call 169; refine hf.mono ?_; rintro e w2 ⟨rfl, hB2⟩; obtain ⟨hc2, hf2⟩ := heldS_below HH.out hB2 HS.out k HK.out)
      go_roundw
      case rel =>
        refine ⟨k + 1, by omega, by go_num, Lib.hid ?_, Lib.hid ?_, (hw.trans (hB2.mono hw.size)).setCell (p := ⟨w.heap.size, k, none⟩) (Nat.le_refl _) _⟩
        · rw [← HSet2.out]
          exact heldS_set (heldS_below HH.out hB2 HS.out) k HK.out _
        · have h1 := HS.out
          have h2 := hB2.size
          simp [World.setCell]
          omega
      case measure => simp [intOf]; omega
    · obtain rfl : k = n := by omega
      have hj := HH.out
      rw [← HN.out, rowS_all] at hj
      have hj2 := joinS_at p HP.out HM.out w.heap.size wr HS.out hj
      rw [HN.out] at hj2
      clear hj
      go_wp2_with (go_at_call 147; refine hj2.mono ?_; rintro e w' ⟨rfl, hB2⟩)
      go_ret
      exact ⟨rfl, hw.trans (hB2.mono hw.size)⟩




theorem cut8_all (g : Nat) (w : World) : (Instr.sliceAt 22 (.pointer (some ⟨g, 0, none⟩)) none none none).run Tryz.prog w = .ok (.slice (some ⟨g, 0, none⟩) 8 8) w := by
  have hl : Tryz.prog.arrayLen 22 = 8 := by kernel_rfl
  rw [run_sliceAt_array_all w 22 _ (by kernel_rfl), hl]
  have hs : (sizeOf (Tryz.prog.elem 22)).run Tryz.prog w = .ok 1 w := by kernel_rfl
  rw [hs]
  simp [slicedAt, Result.andThen, Addr.add]

theorem cut8_to (g k : Nat) (h : k ≤ 8) (w : World) : (Instr.sliceAt 22 (.pointer (some ⟨g, 0, none⟩)) none (some (.int .i64 k)) none).run Tryz.prog w = .ok (.slice (some ⟨g, 0, none⟩) k 8) w := by
  have hl : Tryz.prog.arrayLen 22 = 8 := by kernel_rfl
  rw [run_sliceAt_array_h w 22 _ (by kernel_rfl) .i64 k (by omega) (by rw [hl]; omega), hl]
  have hs : (sizeOf (Tryz.prog.elem 22)).run Tryz.prog w = .ok 1 w := by kernel_rfl
  rw [hs]
  simp [slicedAt, Result.andThen, Addr.add]

/-- Where a slice from place k on begins. -/
def offOf (k : Nat) : Nat := if k = 8 then 0 else k

theorem cut8_from (g k : Nat) (h : k ≤ 8) (w : World) : (Instr.sliceAt 22 (.pointer (some ⟨g, 0, none⟩)) (some (.int .i64 k)) none none).run Tryz.prog w = .ok (.slice (some ⟨g, offOf k, none⟩) (8 - k) (8 - k)) w := by
  have hl : Tryz.prog.arrayLen 22 = 8 := by kernel_rfl
  rw [run_sliceAt_array_l w 22 _ (by kernel_rfl) .i64 k (by omega) (by rw [hl]; omega), hl]
  have hs : (sizeOf (Tryz.prog.elem 22)).run Tryz.prog w = .ok 1 w := by kernel_rfl
  rw [hs]
  unfold offOf
  by_cases h8 : k = 8
  · subst h8; simp [slicedAt, Result.andThen, Addr.add]
  · have h2 : ¬ 8 = k := fun e => h8 e.symm
    simp [slicedAt, Result.andThen, h2, h8, Addr.add]
    intro h0
    rw [h0]

theorem may_any (p : List Int) (h8 : p.length = 8) (b : Bool) (hb : mayP p = b) (w : World) : Calls Tryz.prog 148 #[.agg (arr p)] w fun e w' => e = .returned (.bool b) ∧ Below w.heap.size w w' := by
  subst hb
  match p, h8 with
  | [a0, a1, a2, a3, a4, a5, a6, a7], _ => exact may_in a0 a1 a2 a3 a4 a5 a6 a7 w

theorem join_row (p q : List Int) (hm : mayP p = true) (g o : Nat) (cap : Nat) (m : Int) (w : World) (hat : AtT m w) (h : RowAt w g q) (hq : ∀ j (h : j < p.length), q[o + j]? = some p[j]) (hp : p.length ≤ 8) (x : ByteArray) (hx : (⟨(joinC (texts p)).toArray⟩ : ByteArray) = x) (n : Nat) (hn : p.length = n) :
    Calls Tryz.prog 150 #[.slice (some ⟨g, o, none⟩) n cap] w fun e W' => e = .returned (.string x) ∧ Below w.heap.size w W' := by
  subst hx; subst hn
  refine join_any p hp hm g o cap m w hat h.lt fun j hj => ?_
  obtain ⟨h1, h2⟩ := List.getElem?_eq_some_iff.1 (hq j hj)
  rw [h.cell _ h1, h2]

theorem may_take (p : List Int) (k : Nat) (h : mayP p = true) : mayP (p.take k) = true := all_take _ _ _ h

theorem may_drop (p : List Int) (k : Nat) (h : mayP p = true) : mayP (p.drop k) = true := all_drop _ _ _ h

theorem texts_take (p : List Int) (k : Nat) : texts (p.take k) = (texts p).take k := by simp [texts, List.map_take]

theorem texts_drop (p : List Int) (k : Nat) : texts (p.drop k) = (texts p).drop k := by simp [texts, List.map_drop]

theorem showNo (p : List Int) (h8 : p.length = 8) (hm : mayP p = false) (w : World) : Calls Tryz.prog 116 #[.agg (arr p)] w fun e W' => e = .returned (.string ⟨#[]⟩) ∧ Below w.heap.size w W' := by
  have HB := Lib.hid (show Below w.heap.size w (w.alloc (.cells (arr p) 22)) from (Below.refl _ w).alloc (Nat.le_refl _) _)
  have HR := Lib.hid (RowAt.new w p)
  have H8 := Lib.hid h8
  have HM := Lib.hid hm
  clear h8 hm
  go_enter Tryz.func116, Tryz.ntmps116
  go_wp2_with (first | refine wp_load22 rfl _ rfl _ rfl p H8.out HR.out ?_ | (go_at_call 148; refine (may_any p H8.out false HM.out _).mono ?_; rintro e w2 ⟨rfl, hB2⟩))
  go_ret
  exact ⟨rfl, HB.out.trans (hB2.mono HB.out.size)⟩

set_option maxRecDepth 100000 in
set_option maxHeartbeats 2000000 in
theorem showFull (p : List Int) (h8 : p.length = 8) (hm : mayP p = true) (hr : (runP p).2 = 0) (m : Int) (w : World) (hat : AtT m w) : Calls Tryz.prog 116 #[.agg (arr p)] w fun e W' => e = .returned (.string ⟨(joinC (texts p)).toArray⟩) ∧ Below w.heap.size w W' := by
  have HB := Lib.hid (show Below w.heap.size w (w.alloc (.cells (arr p) 22)) from (Below.refl _ w).alloc (Nat.le_refl _) _)
  have HR := Lib.hid (RowAt.new w p)
  have HA := Lib.hid (hat.later HB.out)
  have H8 := Lib.hid h8
  have HM := Lib.hid hm
  obtain ⟨x, hx⟩ : ∃ x : ByteArray, (⟨(joinC (texts p)).toArray⟩ : ByteArray) = x := ⟨_, rfl⟩
  have HX := Lib.hid hx
  have hrun := fun u => run_any p h8 u
  rw [hr] at hrun
  have HRun := Lib.hid hrun
  have hcut := cut8_all w.heap.size
  rw [hx]
  clear h8 hm hat hx hrun hr
  go_enter Tryz.func116, Tryz.ntmps116
  go_wp2_with (first
    | refine wp_load22 rfl _ rfl _ rfl p H8.out HR.out ?_
    | refine wp_load22 rfl _ rfl _ rfl p H8.out (HR.out.later hB2) ?_
    | (go_at_call 148; refine (may_any p H8.out true HM.out _).mono ?_; rintro e w2 ⟨rfl, hB2⟩)
    | (go_at_call 149; refine (HRun.out _).mono ?_; rintro e w3 ⟨rfl, hB3⟩)
    | (go_at_call 150; refine (join_row p p HM.out w.heap.size 0 8 m _ ((HA.out.later hB2).later hB3) ((HR.out.later hB2).later hB3) (fun j h => by rw [Nat.zero_add]; exact List.getElem?_eq_getElem h) (by have := H8.out; omega) x HX.out 8 H8.out).mono ?_; rintro e w4 ⟨rfl, hB4⟩))
  go_ret
  exact ⟨rfl, Ascii.below4 HB.out hB2 hB3 hB4⟩

/-- What stands ahead of a row, and behind it. -/
theorem row_parts (p : List Int) (h8 : p.length = 8) (a n : Nat) (h : a + n ≤ 8) : (∀ j (hj : j < (p.take a).length), p[0 + j]? = some (p.take a)[j]) ∧ (∀ j (hj : j < (p.drop (a + n)).length), p[offOf (a + n) + j]? = some (p.drop (a + n))[j]) := by
  constructor
  · intro j hj
    rw [Nat.zero_add, List.getElem_take]
    exact List.getElem?_eq_getElem _
  · intro j hj
    have : a + n ≠ 8 := by simp at hj; omega
    unfold offOf
    rw [if_neg this, List.getElem_drop]
    exact List.getElem?_eq_getElem _

set_option maxRecDepth 100000 in
set_option maxHeartbeats 4000000 in
theorem showGap (p : List Int) (h8 : p.length = 8) (hm : mayP p = true) (a n : Nat) (hr : runP p = (a, n)) (hn : 1 ≤ n) (han : a + n ≤ 8) (m : Int) (w : World) (hat : AtT m w) : Calls Tryz.prog 116 #[.agg (arr p)] w fun e W' => e = .returned (.string ⟨(gapped a n (texts p)).toArray⟩) ∧ Below w.heap.size w W' := by
  have HB := Lib.hid (show Below w.heap.size w (w.alloc (.cells (arr p) 22)) from (Below.refl _ w).alloc (Nat.le_refl _) _)
  have HR := Lib.hid (RowAt.new w p)
  have HA := Lib.hid (hat.later HB.out)
  have H8 := Lib.hid h8
  have HM := Lib.hid hm
  obtain ⟨x, hx⟩ : ∃ x : ByteArray, (⟨(joinC (texts (p.take a))).toArray⟩ : ByteArray) = x := ⟨_, rfl⟩
  obtain ⟨y, hy⟩ : ∃ y : ByteArray, (⟨(joinC (texts (p.drop (a + n)))).toArray⟩ : ByteArray) = y := ⟨_, rfl⟩
  have HX := Lib.hid hx
  have HY := Lib.hid hy
  have hb : x.size ≤ 200 ∧ y.size ≤ 200 := by
    have key : ∀ q : List Int, mayP q = true → q.length ≤ 8 → (joinC (texts q)).length ≤ 200 := by
      intro q hq hl
      have h4 : ∀ t ∈ texts q, t.length ≤ 4 := fun t ht => ((okP_iff t).1 (List.all_eq_true.1 (texts_okP q hq) t ht)).2.1
      have hs := lens_le _ 4 h4
      have e : (texts q).length = q.length := by simp [texts]
      rw [joinC_len]
      omega
    rw [← hx, ← hy]
    exact ⟨key _ (may_take p a hm) (by simp; omega), key _ (may_drop p (a + n) hm) (by simp; omega)⟩
  obtain ⟨bx, bY⟩ := hb
  have HF := Lib.hid (show (⟨(gapped a n (texts p)).toArray⟩ : ByteArray) = x ++ (⟨#[58, 58]⟩ : ByteArray) ++ y by
    rw [← hx, ← hy, texts_take, texts_drop]
    unfold gapped
    apply ByteArray.ext
    simp)
  have hrun := fun u => run_any p h8 u
  rw [hr] at hrun
  have HRun := Lib.hid hrun
  have hcut := cut8_to w.heap.size a (by omega)
  obtain ⟨q, hq⟩ : ∃ q, a + n = q := ⟨_, rfl⟩
  rw [hq] at han
  have hcut2 := cut8_from w.heap.size q han
  have hPt := row_parts p h8 a n (by omega)
  rw [hq] at hPt
  have HPt := Lib.hid hPt
  clear hPt
  have t1 : ((n : Int) == 0) = false := beq_false_of_ne (by omega)
  have HL1 := Lib.hid (show (p.take a).length = a by simp; omega)
  have HL2 := Lib.hid (show (p.drop q).length = 8 - q by simp [h8])
  have HXY := Lib.hid (show (offOf q = 0 ∧ 8 - q = a ∧ 8 - q = 8) → x = y from fun ⟨_, h2, h3⟩ => by
    rw [← hx, ← hy, hq, show q = 0 by omega, show a = 8 by omega, List.take_of_length_le (by omega)]
    rfl)
  generalize hO : offOf q = O at hcut2 HPt HXY
  have esum : (a : Int) + (n : Int) = (q : Int) := by omega
  rw [hq] at HY
  have h8q : (8 : Nat) - q ≤ 8 := by omega
  clear h8 hm hat hx hy hrun hr hO hq
  go_enter Tryz.func116, Tryz.ntmps116
  go_wp2_with (first
    | refine wp_load22 rfl _ rfl _ rfl p H8.out HR.out ?_
    | refine wp_load22 rfl _ rfl _ rfl p H8.out (HR.out.later hB2) ?_
    | (go_at_call 148; refine (may_any p H8.out true HM.out _).mono ?_; rintro e w2 ⟨rfl, hB2⟩)
    | (go_at_call 149; refine (HRun.out _).mono ?_; rintro e w3 ⟨rfl, hB3⟩))
  have HW := Lib.hid (show AtT m w3 ∧ RowAt w3 w.heap.size p from ⟨(HA.out.later hB2).later hB3, (HR.out.later hB2).later hB3⟩)
  have HBB := Lib.hid (Ascii.below3 HB.out hB2 hB3)
  obtain ⟨J, hJ1, hJ2⟩ : ∃ J : Nat → Nat → Nat → ByteArray, J 0 a 8 = x ∧ J O (8 - q) (8 - q) = y :=
    ⟨fun o l c => if o = 0 ∧ l = a ∧ c = 8 then x else y, by simp, by
      by_cases e : O = 0 ∧ 8 - q = a ∧ 8 - q = 8
      · simp only [if_pos e]
        have := HXY.out e
        exact this
      · simp only [if_neg e]⟩
  have cJ := Lib.hid (show ∀ (o l c : Nat) (h : (o = 0 ∧ l = a ∧ c = 8) ∨ (o = O ∧ l = 8 - q ∧ c = 8 - q)) (u : World) (hu : Below w3.heap.size w3 u), Calls Tryz.prog 150 #[.slice (some ⟨w.heap.size, o, none⟩) l c] u fun e u' => e = .returned (.string (J o l c)) ∧ Below w3.heap.size w3 u' from by
    intro o l c h u hu
    rcases h with ⟨rfl, rfl, rfl⟩ | ⟨rfl, rfl, rfl⟩
    · rw [hJ1]
      exact (join_row (p.take l) p (may_take p l HM.out) w.heap.size 0 8 m u (HW.out.1.later hu) (HW.out.2.later hu) HPt.out.1 (by have := HL1.out; omega) x HX.out l HL1.out).mono fun e u' h => ⟨h.1, hu.trans (h.2.mono hu.size)⟩
    · rw [hJ2]
      exact (join_row (p.drop q) p (may_drop p q HM.out) w.heap.size o (8 - q) m u (HW.out.1.later hu) (HW.out.2.later hu) HPt.out.2 (by have := HL2.out; omega) y HY.out (8 - q) HL2.out).mono fun e u' h => ⟨h.1, hu.trans (h.2.mono hu.size)⟩)
  clear hB2 hB3 HX HY HPt HL1 HL2 HRun HW HXY HM HA HR H8
  have hany : ∀ p : Prop, (∀ u, Below w3.heap.size w3 u → p) ↔ p := fun p => ⟨fun h => h _ (Below.refl _ _), fun h _ _ => h⟩
  refine Ascii.wp_region_quiet_below (by kernel_rfl) (by kernel_rfl) ?_
  repeat (go_big_quiet_step ((intro hu; go_at_call 150; exact cJ.out _ _ _ (by first | exact .inl ⟨rfl, rfl, rfl⟩ | exact .inr ⟨rfl, rfl, rfl⟩) _ hu)))
  refine wpQuiet_nil ?_
  intro u hu
  go_wp2
  go_ret
  exact ⟨by rw [HF.out]; rfl, Ascii.below2 HBB.out hu⟩

/-- Show, of any pieces. -/
theorem show_full (p : List Int) (h8 : p.length = 8) (x : ByteArray) (hx : (⟨(showS p).toArray⟩ : ByteArray) = x) (m : Int) (w : World) (hat : AtT m w) : Calls Tryz.prog 116 #[.agg (arr p)] w fun e W' => e = .returned (.string x) ∧ Below w.heap.size w W' := by
  subst hx
  unfold showS
  cases hm : mayP p
  · exact showNo p h8 hm w
  · obtain ⟨r1, r2, r3, r4⟩ := run_fits p h8
    unfold showIn
    rw [if_pos rfl]
    by_cases h : (runP p).2 = 0
    · rw [if_pos h]
      exact showFull p h8 hm h m w hat
    · rw [if_neg h]
      exact showGap p h8 hm (runP p).1 (runP p).2 rfl (by omega) r1 m w hat

theorem show_any' (p : List Int) (h8 : p.length = 8) (x : ByteArray) (hx : (⟨(showS p).toArray⟩ : ByteArray) = x) (m : Int) (w : World) (hat : At m w) (hk : Known) : Calls Tryz.prog 116 #[.agg (arr p)] w fun e W' => e = .returned (.string x) ∧ Below w.heap.size w W' := show_full p h8 x hx m w (hat.full hk)

theorem show_any (p : List Int) (h8 : p.length = 8) (x : ByteArray) (hx : (⟨(showS p).toArray⟩ : ByteArray) = x) (m : Int) (w : World) (hat : At m w) : Calls Tryz.prog 116 #[.agg (arr p)] w fun e W' => e = .returned (.string x) ∧ Below w.heap.size w W' := show_any' p h8 x hx m w hat known 




theorem hex_at (c : UInt8) (w : World) : Calls Tryz.prog 224 #[.int .u8 (c.toNat : Int)] w fun e w' => e = .returned (.int .i64 (hexV c)) ∧ w = w' :=
  Ascii.hex_any (c.toNat : Int) (by omega) (by have := c.toNat_lt; omega) w

theorem take_next (s : ByteArray) (k : Nat) (h : k < s.size) : s.data.toList.take (k + 1) = s.data.toList.take k ++ [s[k]] := Ascii.take_snoc s k h

theorem not_ok (s : ByteArray) (k : Nat) (h : k < s.size) (hn : okC s[k] = false) : okP s.data.toList = false := by
  cases e : okP s.data.toList
  · rfl
  · have := List.all_eq_true.1 ((okP_iff _).1 e).2.2 s[k] (by rw [show s[k] = s.data.toList[k]'h from rfl]; exact List.getElem_mem _)
    rw [hn] at this
    cases this

theorem okP_out (s : ByteArray) (h : s.size = 0 ∨ 4 < s.size) : okP s.data.toList = false := by
  have hl : s.data.toList.length = s.size := rfl
  unfold okP
  rw [hl]
  rcases h with h | h
  · rw [decide_eq_false (by omega)]; rfl
  · rw [decide_eq_false (show ¬ s.size ≤ 4 by omega)]; simp

set_option maxRecDepth 100000 in
set_option maxHeartbeats 2000000 in
theorem piece_in (s : ByteArray) (h0 : 0 < s.size) (h4 : s.size ≤ 4) (w : World) : Calls Tryz.prog 216 #[.string s] w fun e w' => e = .returned (.tuple #[.int .i64 (if okP s.data.toList then (valN s.data.toList : Int) else 0), .bool (okP s.data.toList)]) ∧ w = w' := by
  have b0 : s.toList.isEmpty = false := by
    rw [ByteArray.toList_eq]
    cases e : s.data.toList with
    | nil => have : s.data.toList.length = s.size := rfl
             rw [e] at this
             simp at this
             omega
    | cons c r => rfl
  have b4 : decide ((4 : Int) < (s.size : Int)) = false := decide_eq_false (by omega)
  obtain ⟨x, hx⟩ : ∃ x : Int, (if okP s.data.toList then (valN s.data.toList : Int) else 0) = x := ⟨_, rfl⟩
  obtain ⟨b, hb⟩ : ∃ b, okP s.data.toList = b := ⟨_, rfl⟩
  rw [hx, hb]
  have HX := Lib.hid hx
  have HBb := Lib.hid hb
  clear hx hb
  have HE := Lib.hid (show ∀ h : s.data.toList.all okC = true, okP s.data.toList = true from fun h => (okP_iff _).2 ⟨h0, h4, h⟩)
  go_enter Tryz.func216, Tryz.ntmps216
  go_wp2
  go_loopw [4, 5, 6, 16] (fun n _ _ i wr => ∃ k v : Nat, k ≤ s.size ∧ i = .int .i64 k ∧ n = .int .i64 v ∧ Hid (v = valN (s.data.toList.take k) ∧ (s.data.toList.take k).all okC = true) ∧ wr = w) (fun _ _ _ i _ => s.size - (intOf i).toNat)
  case atStart => exact ⟨0, 0, Nat.zero_le _, rfl, rfl, Lib.hid ⟨rfl, rfl⟩, rfl⟩
  case round =>
    obtain ⟨k, v, hk, rfl, rfl, HV, rfl⟩ := hrel
    by_cases hlt : k < s.size
    · have t1 : (k : Int) < s.size := by omega
      have hc := hex_at s[k] wr
      have HC := Lib.hid (show okC s[k] = decide (0 ≤ hexV s[k]) from rfl)
      have hle := hexV_le s[k]
      have HT := Lib.hid (take_next s k hlt)
      have HNo := Lib.hid (not_ok s k hlt)
      have hv : v < 65536 := by
        have h1 := valN_lt (s.data.toList.take k)
        rw [← HV.out.1] at h1
        have h2 : (s.data.toList.take k).length ≤ 4 := by rw [List.length_take]; omega
        have h3 : 16 ^ (s.data.toList.take k).length ≤ 16 ^ 4 := Nat.pow_le_pow_right (by omega) h2
        omega
      by_cases hd : 0 ≤ hexV s[k]
      · have HCs := Lib.hid (show okC s[k] = true by rw [HC.out]; exact decide_eq_true hd)
        obtain ⟨d, hdd⟩ : ∃ d : Nat, hexV s[k] = (d : Int) := ⟨(hexV s[k]).toNat, by omega⟩
        have HD := Lib.hid hdd
        rw [hdd] at hc hle
        have t2 : decide ((d : Int) < 0) = false := decide_eq_false (by omega)
        clear hd hdd HC HNo
        go_wp2_with (go_at_call 224; refine hc.mono ?_; rintro e w' ⟨rfl, rfl⟩)
        go_roundw
        case rel =>
          refine ⟨k + 1, v * 16 + d, by omega, by go_num, by go_num, Lib.hid ⟨?_, ?_⟩, by first | trivial | rfl⟩
          · rw [HT.out, valN_snoc, ← HV.out.1, HD.out]; simp
          · rw [HT.out, List.all_append, HV.out.2]; simp [HCs.out]
        case measure => simp [intOf]; omega
      · have HR := Lib.hid (HNo.out (by rw [HC.out]; exact decide_eq_false hd))
        have t2 : decide (hexV s[k] < 0) = true := decide_eq_true (by omega)
        clear hd HC HNo
        go_wp2_with (go_at_call 224; refine hc.mono ?_; rintro e w' ⟨rfl, rfl⟩)
        go_ret2
        obtain rfl : b = false := by rw [← HBb.out, HR.out]
        obtain rfl : x = 0 := by rw [← HX.out, HR.out]; rfl
        exact ⟨rfl, rfl⟩
    · obtain rfl : k = s.size := by omega
      have HR := Lib.hid (show okP s.data.toList = true ∧ v = valN s.data.toList by
        have h1 := HV.out
        rw [Ascii.take_all] at h1
        exact ⟨HE.out h1.2, h1.1⟩)
      go_wp2
      go_ret2
      obtain rfl : b = true := by rw [← HBb.out, HR.out.1]
      obtain rfl : x = (v : Int) := by rw [← HX.out, HR.out.1, ← HR.out.2]; rfl
      exact ⟨rfl, rfl⟩

set_option maxRecDepth 100000 in
set_option maxHeartbeats 1000000 in
theorem piece_any (s : ByteArray) (hs : s.size ≤ 1000000) (w : World) : Calls Tryz.prog 216 #[.string s] w fun e w' => e = .returned (.tuple #[.int .i64 (if okP s.data.toList then (valN s.data.toList : Int) else 0), .bool (okP s.data.toList)]) ∧ w = w' := by
  by_cases h0 : s.size = 0
  · rw [okP_out s (.inl h0)]
    have b0 : s.toList.isEmpty = true := by
      rw [ByteArray.toList_eq]
      cases e : s.data.toList with
      | nil => rfl
      | cons c r => have : s.data.toList.length = s.size := rfl
                    rw [e] at this
                    simp at this
                    omega
    clear h0
    go_enter Tryz.func216, Tryz.ntmps216
    go_wp2
    go_ret2
    exact ⟨rfl, rfl⟩
  · by_cases h4 : s.size ≤ 4
    · exact piece_in s (by omega) h4 w
    · rw [okP_out s (.inr (by omega))]
      have b4 : decide ((4 : Int) < (s.size : Int)) = true := decide_eq_true (by omega)
      have b0 : s.toList.isEmpty = false := by
        rw [ByteArray.toList_eq]
        cases e : s.data.toList with
        | nil => have : s.data.toList.length = s.size := rfl
                 rw [e] at this
                 simp at this
                 omega
        | cons c r => rfl
      clear h0 h4
      go_enter Tryz.func216, Tryz.ntmps216
      go_wp2
      go_ret2
      exact ⟨rfl, rfl⟩

/-! ### Split at colons, at most nine -/

theorem occ_colon (l : List UInt8) (i : Nat) : Lib.occAt l [58] i = true ↔ l[i]? = some 58 := by
  constructor
  · exact fun h => Lib.occAt_head rfl h
  · intro h
    obtain ⟨hi, e⟩ := List.getElem?_eq_some_iff.1 h
    unfold Lib.occAt
    rw [List.drop_eq_getElem_cons hi, e]
    simp

theorem occ_colon_not (l : List UInt8) (i : Nat) (h : l[i]? ≠ some 58) : Lib.occAt l [58] i = false := by
  cases e : Lib.occAt l [58] i
  · rfl
  · exact absurd ((occ_colon l i).1 e) h

theorem idx_none (l : List UInt8) (h : (58 : UInt8) ∉ l) : Lib.index l [58] = -1 :=
  Lib.index_none fun j _ => occ_colon_not l j fun e => h (List.mem_of_getElem? e)

theorem idx_some (a r : List UInt8) (h : (58 : UInt8) ∉ a) : Lib.index (a ++ 58 :: r) [58] = (a.length : Int) := by
  refine Lib.index_first (by simp) ((occ_colon _ _).2 (by simp)) fun j hj => occ_colon_not _ j fun e => h ?_
  rw [List.getElem?_append_left hj] at e
  exact List.mem_of_getElem? e

theorem split_none (k : Nat) (l : List UInt8) (h : (58 : UInt8) ∉ l) : Lib.splitK [58] 0 k l = [l] := by
  cases k with
  | zero => rfl
  | succ k => unfold Lib.splitK; rw [idx_none l h]; rfl

theorem split_colon (k : Nat) (a r : List UInt8) (h : (58 : UInt8) ∉ a) : Lib.splitK [58] 0 (k + 1) (a ++ 58 :: r) = a :: Lib.splitK [58] 0 k r := by
  conv => lhs; unfold Lib.splitK
  rw [idx_some a r h, if_neg (by simp)]
  simp

theorem split_parts (k : Nat) (l : List UInt8) : ((parts l).length ≤ k + 1 → Lib.splitK [58] 0 k l = parts l) ∧ (k + 1 < (parts l).length → ∃ t ∈ Lib.splitK [58] 0 k l, (58 : UInt8) ∈ t) := by
  induction k generalizing l with
  | zero =>
    rcases first_colon l with hn | ⟨a, r, rfl, hn⟩
    · rw [parts_none l hn]
      exact ⟨fun _ => rfl, fun h => by simp at h⟩
    · rw [parts_cons a r hn]
      have := List.length_pos_iff.2 (parts_ne r)
      exact ⟨fun h => by simp at h; exact absurd h (parts_ne r), fun _ => ⟨a ++ 58 :: r, by simp [Lib.splitK], by simp⟩⟩
  | succ k ih =>
    rcases first_colon l with hn | ⟨a, r, rfl, hn⟩
    · rw [parts_none l hn, split_none _ l hn]
      exact ⟨fun _ => rfl, fun h => by simp at h⟩
    · rw [parts_cons a r hn, split_colon _ a r hn]
      have hi := ih r
      refine ⟨fun h => by rw [hi.1 (by simpa using h)], fun h => ?_⟩
      obtain ⟨t, h1, h2⟩ := hi.2 (by simpa using h)
      exact ⟨t, List.mem_cons_of_mem _ h1, h2⟩

theorem parts_le (l : List UInt8) : (parts l).length ≤ l.length + 1 := by
  induction l with
  | nil => simp [parts]
  | cons c r ih =>
    unfold parts
    split
    · simp; exact ih
    · cases hp : parts r with
      | nil => exact absurd hp (parts_ne r)
      | cons x t => rw [hp] at ih; simp at ih ⊢; omega

def cut9 (l : List UInt8) : List (List UInt8) := Lib.splitK [58] 0 (min 9 (l.length + 1) - 1) l

theorem cut9_all (l : List UInt8) : (cut9 l).all okP = ((parts l).all okP && decide ((parts l).length ≤ 9)) ∧ ((parts l).length ≤ 9 → cut9 l = parts l) := by
  have hle := parts_le l
  have hs := split_parts (min 9 (l.length + 1) - 1) l
  unfold cut9
  by_cases h : (parts l).length ≤ 9
  · have e := hs.1 (by omega)
    rw [e, decide_eq_true h, Bool.and_true]
    exact ⟨rfl, fun _ => rfl⟩
  · obtain ⟨t, h1, h2⟩ := hs.2 (by omega)
    refine ⟨?_, fun h' => absurd h' h⟩
    rw [decide_eq_false h, Bool.and_false, List.all_eq_false]
    refine ⟨t, h1, ?_⟩
    cases e : okP t
    · simp
    · exact absurd h2 (okP_no t e)

/-- As pieces has it. -/
def okK (l : List UInt8) : Bool := okL l && decide ((valL l).length ≤ 9)

def valK (l : List UInt8) : List Nat := if okK l then valL l else []

theorem okK_cut (l : List UInt8) (h : l ≠ []) : okK l = (cut9 l).all okP ∧ (okK l = true → valL l = (cut9 l).map valN) := by
  have hi : l.isEmpty = false := by cases l <;> simp_all
  have hc := cut9_all l
  have hl : (valL l).length = (parts l).length := by unfold valL; rw [hi]; simp
  have ho : okL l = (parts l).all okP := by unfold okL; rw [hi]; rfl
  have e : okK l = (cut9 l).all okP := by unfold okK; rw [ho, hl, hc.1]
  refine ⟨e, fun h => ?_⟩
  unfold okK at h
  rw [Bool.and_eq_true, decide_eq_true_iff, hl] at h
  rw [hc.2 h.2]
  unfold valL
  rw [hi]
  rfl

/-- v is a slice of these numbers, wherever they lie. -/
def Ints (W : World) (v : Value) (l : List Nat) : Prop := (v = .slice none 0 0 ∧ l = []) ∨ ∃ g cap, v = .slice (some ⟨g, 0, none⟩) l.length cap ∧ g < W.heap.size ∧ l.length ≤ cap ∧ ∀ j (h : j < l.length), W.cell? ⟨g, j, none⟩ = some (.int .i64 (l[j] : Int))

theorem Ints.later {W U : World} {v : Value} {l : List Nat} (h : Ints W v l) (hB : Below W.heap.size W U) : Ints U v l := by
  rcases h with h | ⟨g, cap, h1, h2, h3, h4⟩
  · exact .inl h
  · exact .inr ⟨g, cap, h1, Nat.lt_of_lt_of_le h2 hB.size, h3, fun j hj => (hB.cell (p := ⟨g, j, none⟩) h2).trans (h4 j hj)⟩

def iv (n : Nat) : Value := .int .i64 (n : Int)

theorem ints_owned {W : World} {base : Nat} {v : Value} {l : List Nat} (h : W.ownsRow base 3 1 v l.length (l.map iv)) : Ints W v l := by
  rcases h.2 with ⟨h1, h2⟩ | ⟨g, cap, cur, rfl, hb, hg, hn, hc, hs, ht⟩
  · exact .inl ⟨h1, by simpa using h2⟩
  · refine .inr ⟨g, cap, rfl, (Array.getElem?_eq_some_iff.1 hg).1, by simpa using hn, fun j hj => ?_⟩
    rw [h.cellAt j (by omega)]
    simp [iv, hj]

theorem grown_below3 {W w2 : World} {base : Nat} {v : Value} {k : Nat} {xs : List Value} (hrow : W.ownsRow base 3 1 v k xs) (hb : base ≤ W.heap.size) (hgrow : W.grownBy w2 v.ownBlock) : Below base W w2 := by
  refine (Below.refl base W).grown hgrow hb fun j ej => ?_
  rcases hrow.2 with ⟨rfl, _⟩ | ⟨g, cap, cur, rfl, hb, _, _⟩
  · simp [Value.ownBlock] at ej
  · obtain rfl : g = j := by simpa [Value.ownBlock] using ej
    exact hb

theorem Tryz.infoInt : (Tryz.prog.info? 3).map (fun i => (i.zero, i.size, i.bytes)) = some (some (.int .i64 0), 1, 8) := by kernel_rfl



theorem data_ne (s : ByteArray) (h : 0 < s.size) : s.data.toList ≠ [] := by
  intro e
  have : s.data.toList.length = s.size := rfl
  rw [e] at this
  simp at this
  omega

theorem empty_no (s : ByteArray) (h : 0 < s.size) : s.toList.isEmpty = false := by
  rw [ByteArray.toList_eq]
  cases e : s.data.toList with
  | nil => exact absurd e (data_ne s h)
  | cons c r => rfl

theorem empty_yes (s : ByteArray) (h : s.size = 0) : s.data.toList = [] := by
  have : s.data.toList.length = s.size := rfl
  rw [h] at this
  exact List.length_eq_zero_iff.1 this

def cutB (s : ByteArray) : List ByteArray := Lib.splitB ⟨#[58]⟩ 0 (min 9 (s.size + 1) - 1) s

theorem cutB_data (s : ByteArray) : (cutB s).map (·.data.toList) = cut9 s.data.toList := Lib.splitB_data _ _ _ _

theorem split_at (s : ByteArray) (hs : s.size ≤ 1000000) (m : Int) (w : World) (hm : At m w) :
    Calls Tryz.prog 199 #[.string s, .string ⟨#[58]⟩, .int .i64 9] w fun e w' => e = .returned (.slice (some ⟨w.heap.size, 0, none⟩) (cutB s).length (min 9 (s.size + 1))) ∧ w.alloc (.cells (Lib.cellsOf (cutB s) (min 9 (s.size + 1))) 9) = w' :=
  (Tryz.strings_SplitN s ⟨#[58]⟩ 9 m w (by omega) hm.max (by decide) (by decide) (by decide)).mono fun e w' h => ⟨h.1, h.2.symm⟩

theorem cells_at (l : List ByteArray) (N : Nat) (j : Nat) (h : j < l.length) : (Lib.cellsOf l N)[j]? = some (.string l[j]) := by
  unfold Lib.cellsOf
  rw [List.getElem?_toArray, List.getElem?_append_left (by simpa using h), List.getElem?_map, List.getElem?_eq_getElem h]
  rfl

theorem split_le (k : Nat) (l p : List UInt8) (h : p ∈ Lib.splitK [58] 0 k l) : p.length ≤ l.length := by
  induction k generalizing l with
  | zero => simp [Lib.splitK] at h; rw [h]; exact Nat.le_refl _
  | succ k ih =>
    rcases first_colon l with hn | ⟨a, r, rfl, hn⟩
    · rw [split_none _ _ hn] at h
      simp at h
      rw [h]; exact Nat.le_refl _
    · rw [split_colon _ _ _ hn, List.mem_cons] at h
      simp
      rcases h with rfl | h
      · omega
      · have := ih r h; omega

theorem cutB_le (s p : ByteArray) (h : p ∈ cutB s) : p.size ≤ s.size := by
  have : p.data.toList ∈ cut9 s.data.toList := by rw [← cutB_data]; exact List.mem_map_of_mem h
  exact split_le _ _ _ this

theorem cut_len (k : Nat) (l : List UInt8) : (Lib.splitK [58] 0 k l).length ≤ k + 1 := by
  induction k generalizing l with
  | zero => simp [Lib.splitK]
  | succ k ih =>
    rcases first_colon l with hn | ⟨a, r, rfl, hn⟩
    · rw [split_none _ _ hn]; simp
    · rw [split_colon _ _ _ hn, List.length_cons]
      have := ih r
      omega

theorem cutB_len (s : ByteArray) : (cutB s).length ≤ 9 := by
  have h1 : (cutB s).length = (cut9 s.data.toList).length := by rw [← cutB_data, List.length_map]
  have h2 := cut_len (min 9 (s.data.toList.length + 1) - 1) s.data.toList
  unfold cut9 at h1
  omega

theorem alloc_len (w : World) (C : Array Value) (t : TypeId) : w.heap.size + 1 = (w.alloc (.cells C t)).heap.size := by simp

theorem cell_one_new3 (w : World) (x : Value) : ∀ j u, [x][j]? = some u → (w.alloc (.cells #[x] 3)).cell? ((⟨w.heap.size, 0, none⟩ : Addr).add j) = some u := by
  intro j u hj
  have e : (⟨w.heap.size, 0, none⟩ : Addr).add j = ⟨w.heap.size, j, none⟩ := by unfold Addr.add; split <;> simp_all
  rw [e, World.cell?_alloc_at _ _ _ _ rfl]
  simpa using hj

def PiecesPost (w : World) (l : List Nat) (b : Bool) (e : Ending) (W' : World) : Prop := ∃ v, e = .returned (.tuple #[v, .bool b]) ∧ Ints W' v l ∧ Below w.heap.size w W'

set_option maxRecDepth 100000 in
set_option maxHeartbeats 4000000 in
theorem pieces_in (s : ByteArray) (h0 : 0 < s.size) (hs : s.size ≤ 1000000) (m : Int) (w : World) (hm : At m w) : Calls Tryz.prog 197 #[.string s] w (PiecesPost w (valK s.data.toList) (okK s.data.toList)) := by
  obtain ⟨i0, hi, hz0, hz1, hz2⟩ := info_parts Tryz.infoInt
  have hsp := split_at s hs m w hm
  have hcells : ∀ j (h : j < (cutB s).length), (w.alloc (.cells (Lib.cellsOf (cutB s) (min 9 (s.size + 1))) 9)).cell? ⟨w.heap.size, j, none⟩ = some (.string (cutB s)[j]) := fun j h => by
    rw [World.cell?_alloc_at _ _ _ _ rfl]
    exact cells_at _ _ _ h
  have HCut := Lib.hid (okK_cut s.data.toList (data_ne s h0))
  have HData := Lib.hid (cutB_data s)
  have HLe := Lib.hid (fun (p : ByteArray) (h : p ∈ cutB s) => Nat.le_trans (cutB_le s p h) hs)
  have HLen := Lib.hid (cutB_len s)
  have HV := Lib.hid (show valK s.data.toList = if okK s.data.toList then valL s.data.toList else [] from rfl)
  have b0 := empty_no s h0
  have hB0 : Below w.heap.size w (w.alloc (.cells (Lib.cellsOf (cutB s) (min 9 (s.size + 1))) 9)) := (Below.refl _ w).alloc (Nat.le_refl _) _
  have hsz := alloc_len w (Lib.cellsOf (cutB s) (min 9 (s.size + 1))) 9
  generalize valL s.data.toList = vl at HCut HV
  generalize okK s.data.toList = ok at HCut HV ⊢
  generalize valK s.data.toList = vk at HV ⊢
  generalize cut9 s.data.toList = ct at HCut HData
  generalize (min 9 (s.size + 1)) = N at hsp hcells hB0 hsz
  generalize w.alloc (.cells (Lib.cellsOf (cutB s) N) 9) = W at hsp hcells hB0 hsz
  generalize cutB s = cs at hsp hcells HData HLe HLen
  obtain ⟨n, hn⟩ : ∃ n, cs.length = n := ⟨_, rfl⟩
  rw [hn] at hsp HLen
  have HN := Lib.hid hn
  have HCells := Lib.hid hcells
  have HSz := Lib.hid hsz
  have HB0 := Lib.hid hB0
  clear hm hs h0 hn hcells hsz hB0
  go_enter Tryz.func197, Tryz.ntmps197
  go_wp2_with (go_at_call 199; refine hsp.mono ?_; rintro e w' ⟨rfl, rfl⟩)
  clear hsp b0
  go_loopw [4, 6, 7, 8, 14] (fun v _ _ _ i wr => ∃ (k : Nat) (l : List Nat), k ≤ n ∧ i = .int .i64 k ∧ l.length = k ∧ wr.ownsRow W.heap.size 3 1 v l.length (l.map iv) ∧ Hid (l = (ct.take k).map valN ∧ (ct.take k).all okP = true) ∧ Below W.heap.size W wr) (fun _ _ _ _ i _ => n - (intOf i).toNat)
  case atStart => exact ⟨0, [], Nat.zero_le _, rfl, rfl, World.ownsRow_nil _ _ _ _, Lib.hid ⟨rfl, rfl⟩, Below.refl _ _⟩
  case round =>
    obtain ⟨k, l, hk, rfl, hl, hrow, HI, hw⟩ := hrel
    by_cases hlt : k < n
    · have t1 : (k : Int) < (n : Int) := by omega
      have hkc : k < cs.length := by have := HN.out; omega
      have hcell := (hw.cell (p := ⟨w.heap.size, k, none⟩) (by have := HSz.out; show w.heap.size < W.heap.size; omega)).trans (HCells.out k hkc)
      have hkt : k < ct.length := by rw [← HData.out, List.length_map]; exact hkc
      obtain ⟨p, hp⟩ : ∃ p, cs[k] = p := ⟨_, rfl⟩
      have HCt := Lib.hid (show ct[k] = p.data.toList by simp only [← HData.out, List.getElem_map, hp])
      have HTk := Lib.hid (List.take_succ_eq_append_getElem hkt)
      have HMem := Lib.hid (List.getElem_mem hkt)
      have hpc := piece_any p (HLe.out p (by rw [← hp]; exact List.getElem_mem hkc)) wr
      rw [hp] at hcell
      cases hok : okP p.data.toList
      · rw [hok] at hpc
        have HNo := Lib.hid (show ok = false ∧ vk = [] by
          have e1 : ok = false := by
            rw [HCut.out.1, List.all_eq_false]
            exact ⟨ct[k], HMem.out, by rw [HCt.out, hok]; simp⟩
          exact ⟨e1, by rw [HV.out, e1]; rfl⟩)
        clear hok hp HCt HTk HMem hkc hkt
        go_wp2_with (go_at_call 216; refine hpc.mono ?_; rintro e w' ⟨rfl, rfl⟩)
        go_ret2
        obtain ⟨rfl, rfl⟩ := HNo.out
        exact ⟨_, rfl, .inl ⟨rfl, rfl⟩, HB0.out.trans (hw.mono (by have := HSz.out; omega))⟩
      · rw [hok] at hpc
        have hvb := okP_val _ hok
        have HNext := Lib.hid (show l ++ [valN p.data.toList] = (ct.take (k + 1)).map valN ∧ (ct.take (k + 1)).all okP = true by
          rw [HTk.out, List.map_append, List.all_append, HI.out.2, ← HI.out.1, HCt.out]
          simp [hok])
        obtain ⟨x, hx⟩ : ∃ x, valN p.data.toList = x := ⟨_, rfl⟩
        rw [hx] at HNext hpc hvb
        have hb2 : l.length + 1 ≤ maxLen := by have := HLen.out; unfold maxLen; omega
        have hb3 : (l.length + 1) * 8 ≤ 140737488355328 := by have := HLen.out; omega
        have hsz := hw.size
        have hsz1 : W.heap.size ≤ (wr.alloc (.cells #[.int .i64 (x : Int)] 3)).heap.size := by simp; omega
        have hone : ∀ u ∈ [Value.int .i64 (x : Int)], u.oneCell' = true := by simp [Value.oneCell']
        have HO := Lib.hid hone
        clear hok hp HCt HTk HMem hkc hkt hx hone
        go_wp2_with (first | (go_at_call 216; refine hpc.mono ?_; rintro e w' ⟨rfl, rfl⟩) | (at_builtin; refine wpList_append_own _ rfl _ _ 141 rfl W.heap.size 3 i0 (.int .i64 0) 1 8 Tryz.underlying141 hi hz0 hz1 hz2 rfl (by decide) _ _ _ rfl (hrow.alloc _) ⟨wr.heap.size, 0, none⟩ 1 1 [.int .i64 (x : Int)] rfl rfl (cell_one_new3 _ _) HO.out hb2 hb3 hsz1 ?_; intro v' w2 hown' hgrow _))
        go_roundw
        case rel => exact ⟨k + 1, l ++ [x], by omega, by go_num, by simp; exact hl, by simpa [iv] using hown', HNext, (hw.alloc hw.size _).trans (grown_below3 (hrow.alloc _) hsz1 hgrow)⟩
        case measure => simp [intOf]; omega
    · obtain rfl : k = n := by omega
      have HDone := Lib.hid (show ok = true ∧ vk = l by
        have ht : ct.take l.length = ct := List.take_of_length_le (by rw [← HData.out, List.length_map, HN.out]; omega)
        have h1 := HI.out
        rw [← hl, ht] at h1
        have e1 : ok = true := by rw [HCut.out.1, h1.2]
        exact ⟨e1, by rw [HV.out, e1, HCut.out.2 e1, h1.1]; rfl⟩)
      have hints := Lib.hid (ints_owned hrow)
      clear hrow
      go_wp2
      go_ret2
      obtain ⟨rfl, rfl⟩ := HDone.out
      exact ⟨_, rfl, hints.out, HB0.out.trans (hw.mono (by have := HSz.out; omega))⟩

set_option maxRecDepth 100000 in
set_option maxHeartbeats 1000000 in
theorem pieces_any (s : ByteArray) (hs : s.size ≤ 1000000) (m : Int) (w : World) (hm : At m w) : Calls Tryz.prog 197 #[.string s] w (PiecesPost w (valK s.data.toList) (okK s.data.toList)) := by
  by_cases h0 : s.size = 0
  · have e := empty_yes s h0
    rw [e]
    have b0 : s.toList.isEmpty = true := by rw [ByteArray.toList_eq, e]; rfl
    clear h0 e hm
    go_enter Tryz.func197, Tryz.ntmps197
    go_wp2
    go_ret2
    exact ⟨_, rfl, .inl ⟨rfl, rfl⟩, Below.refl _ _⟩
  · exact pieces_in s (by omega) hs m w hm

theorem par_K (l : List UInt8) : parB l = (okK (cutL l).1 && (okK (cutL l).2.1 && fitB ((valK (cutL l).1).length + (valK (cutL l).2.1).length) (cutL l).2.2)) := by
  unfold parB
  generalize (cutL l).1 = a
  generalize (cutL l).2.1 = b
  generalize (cutL l).2.2 = sh
  have key : ∀ n : Nat, 9 < n → fitB n sh = false := by
    intro n hn
    unfold fitB
    cases sh
    · simp; omega
    · simp; omega
  cases ha : okK a
  · cases hla : okL a
    · rfl
    · have : 9 < (valL a).length := by unfold okK at ha; rw [hla] at ha; simp at ha; omega
      rw [key _ (by omega)]
      simp
  · have ea : valK a = valL a := by unfold valK; rw [ha]; rfl
    have oa : okL a = true := by unfold okK at ha; rw [Bool.and_eq_true] at ha; exact ha.1
    cases hb : okK b
    · cases hlb : okL b
      · simp
      · have : 9 < (valL b).length := by unfold okK at hb; rw [hlb] at hb; simp at hb; omega
        rw [key _ (by omega)]
        simp
    · have eb : valK b = valL b := by unfold valK; rw [hb]; rfl
      have ob : okL b = true := by unfold okK at hb; rw [Bool.and_eq_true] at hb; exact hb.1
      rw [ea, eb, oa, ob]

theorem arr_toList (p : List Int) : (arr p).toList = p.map (Value.int .i64) := by simp [arr]

theorem size3 : (Tryz.prog.info? 3).map (·.size) = some 1 := by kernel_rfl

/-- copy onto an array's cells. -/
theorem copy_ints {W : World} {g : Nat} {p : List Int} (h8 : p.length = 8) (hr : RowAt W g p) {v : Value} {l : List Nat} (hi : Ints W v l) (o dl dc : Nat) (hdl : l.length ≤ dl) (hfit : o + l.length ≤ 8) :
    ∃ W', (∀ ty, (Builtin.copy_ #[141, 141] ty #[.slice (some ⟨g, o, none⟩) dl dc, v]).run Tryz.prog W = .ok (goInt l.length) W') ∧ RowAt W' g (p.take o ++ ints l ++ p.drop (o + l.length)) ∧ Below g W W' := by
  rcases hi with ⟨rfl, rfl⟩ | ⟨b, cap, rfl, hb, hc, hcell⟩
  · refine ⟨W, fun ty => run_copy_nil Tryz.prog W 141 141 ty 3 _ _ _ Tryz.underlying141 (by kernel_rfl), ?_, Below.refl _ _⟩
    simpa [ints] using hr
  · have hn : (l.map iv).length = Nat.min l.length dl := by rw [List.length_map]; exact (Nat.min_eq_left hdl).symm
    refine ⟨W.setRow g ((arr p).toList.take o ++ l.map iv ++ (arr p).toList.drop (o + l.length)).toArray, fun ty => ?_, ?_, ?_⟩
    · have := run_copy_row (P := Tryz.prog) W 141 141 ty 3 g o dl dc ⟨b, 0, none⟩ l.length cap (arr p) 22 (l.map iv) Tryz.underlying141 size3 hr hn (fun j u hj => by
        have e : (⟨b, 0, none⟩ : Addr).add j = ⟨b, j, none⟩ := by unfold Addr.add; split <;> simp_all
        rw [List.getElem?_map] at hj
        obtain ⟨y, hy, rfl⟩ := Option.map_eq_some_iff.1 hj
        obtain ⟨h1, h2⟩ := List.getElem?_eq_some_iff.1 hy
        rw [e, hcell j h1, h2]
        rfl) (by rw [List.length_map, arr_size, h8]; exact hfit) (by intro u hu; simp [iv] at hu; obtain ⟨y, _, rfl⟩ := hu; rfl)
      rw [List.length_map] at this
      exact this
    · have := hr.row (p.take o ++ ints l ++ p.drop (o + l.length))
      have e : ((arr p).toList.take o ++ l.map iv ++ (arr p).toList.drop (o + l.length)).toArray = arr (p.take o ++ ints l ++ p.drop (o + l.length)) := by
        rw [arr_toList]
        unfold arr ints
        congr 1
        simp only [List.map_append, List.map_take, List.map_drop, List.map_map]
        rfl
      rw [e]
      exact this
    · exact below_setRow (Below.refl _ _) (Nat.le_refl _) _

theorem ints_len (l : List Nat) : (ints l).length = l.length := by simp [ints]

theorem ints_append (a b : List Nat) : ints (a ++ b) = ints a ++ ints b := by simp [ints]

theorem fill_copy (a b : List Nat) (h : a.length + b.length ≤ 8) (q : Nat) (hq : q + b.length = 8) :
    ((zero8.take 0 ++ ints a ++ zero8.drop (0 + a.length)).take q ++ ints b ++ (zero8.take 0 ++ ints a ++ zero8.drop (0 + a.length)).drop (q + b.length)) = ints (fill a b) := by
  have hz : zero8 = List.replicate 8 0 := rfl
  have e1 : zero8.take 0 ++ ints a ++ zero8.drop (0 + a.length) = ints a ++ List.replicate (8 - a.length) 0 := by
    rw [hz, List.take_zero, List.nil_append, Nat.zero_add, List.drop_replicate]
  have hl : (ints a ++ List.replicate (8 - a.length) (0 : Int)).length = 8 := by simp [ints]; omega
  rw [e1, hq, List.drop_eq_nil_of_le (by omega), List.append_nil, List.take_append, List.take_of_length_le (by rw [ints_len]; omega), ints_len, List.take_replicate]
  unfold fill
  rw [ints_append, ints_append, ← List.append_assoc]
  have e2 : ints (List.replicate (8 - a.length - b.length) 0) = List.replicate (8 - a.length - b.length) 0 := by simp [ints]
  rw [e2, show min (q - a.length) (8 - a.length) = 8 - a.length - b.length by omega]




theorem fit_any (n : Nat) (b : Bool) (x : Bool) (hx : fitB n b = x) (z : Int) (hz : z = (n : Int)) (w : World) : Calls Tryz.prog 198 #[.int .i64 z, .bool b] w fun e w' => e = .returned (.bool x) ∧ w = w' := by
  subst hz; subst hx
  cases b
  · by_cases h : n = 8
    · have t : ((n : Int) == 8) = true := by rw [beq_iff_eq]; omega
      go_enter Tryz.func198, Tryz.ntmps198
      go_wp2
      go_ret
      exact ⟨by simp [fitB, h], rfl⟩
    · have t : ((n : Int) == 8) = false := beq_false_of_ne (by omega)
      go_enter Tryz.func198, Tryz.ntmps198
      go_wp2
      go_ret
      exact ⟨by simp [fitB, h], rfl⟩
  · by_cases h : n < 8
    · have t : decide ((n : Int) < 8) = true := decide_eq_true (by omega)
      go_enter Tryz.func198, Tryz.ntmps198
      go_wp2
      go_ret
      exact ⟨by simp [fitB, h], rfl⟩
    · have t : decide ((n : Int) < 8) = false := decide_eq_false (by omega)
      go_enter Tryz.func198, Tryz.ntmps198
      go_wp2
      go_ret
      exact ⟨by simp [fitB, h], rfl⟩

theorem drewN_below (w : World) (n : Nat) : Below w.heap.size w (w.drewN n) := by
  induction n with
  | zero => exact Below.refl _ _
  | succ n ih => exact ih.drew

theorem cut_at (s : ByteArray) (hs : s.size ≤ 1000000) (a b : ByteArray) (c : Bool) (ha : (⟨(cutL s.data.toList).1.toArray⟩ : ByteArray) = a) (hb : (⟨(cutL s.data.toList).2.1.toArray⟩ : ByteArray) = b) (hc : (cutL s.data.toList).2.2 = c) (m : Int) (w : World) (hm : At m w) :
    Calls Tryz.prog 93 #[.string s, .string ⟨#[58, 58]⟩] w fun e w' => e = .returned (.tuple #[.string a, .string b, .bool c]) ∧ Below w.heap.size w w' := by
  subst ha; subst hb; subst hc
  refine (Tryz.strings_Cut s ⟨#[58, 58]⟩ m w (by omega) hm.max).mono fun e w' h => ?_
  obtain ⟨h1, n, rfl⟩ := h
  rw [show (⟨#[58, 58]⟩ : ByteArray).data.toList = [58, 58] from rfl, cut_lib] at h1
  exact ⟨h1, drewN_below w n⟩

theorem cut_size (l : List UInt8) : (cutL l).1.length ≤ l.length ∧ (cutL l).2.1.length ≤ l.length := by
  rcases cutL_spec l with ⟨_, h⟩ | ⟨_, h1, h2⟩
  · have := congrArg List.length h
    simp at this
    omega
  · rw [h1, h2]; simp

theorem valK_len (l : List UInt8) : (valK l).length ≤ 9 := by
  unfold valK
  split
  · rename_i h
    unfold okK at h
    rw [Bool.and_eq_true, decide_eq_true_iff] at h
    exact h.2
  · simp

theorem Ints.slice {W : World} {v : Value} {l : List Nat} (h : Ints W v l) : ∃ A c, v = .slice A l.length c := by
  rcases h with ⟨rfl, rfl⟩ | ⟨g, c, rfl, _⟩
  · exact ⟨_, _, rfl⟩
  · exact ⟨_, _, rfl⟩

theorem off_copy (P : List Int) (h8 : P.length = 8) (V : List Nat) (q : Nat) (hq : q + V.length = 8) : P.take (offOf q) ++ ints V ++ P.drop (offOf q + V.length) = P.take q ++ ints V ++ P.drop (q + V.length) := by
  unfold offOf
  split
  · rename_i e
    have hv : V = [] := List.length_eq_zero_iff.1 (by omega)
    subst hv
    rw [e]
    have h1 : P.take 8 = P := List.take_of_length_le (by omega)
    have h2 : P.drop 8 = [] := List.drop_eq_nil_of_le (by omega)
    simp [ints, h1, h2]
  · rfl

/-- Both results: an array and whether it is one. -/
theorem results10 (tmps : Array Value) (w : World) (g : Nat) (l : List Int) (h8 : l.length = 8) (b : Bool) (hp : tmps.getD 2 undef = .pointer (some ⟨g, 0, none⟩)) (hb : tmps.getD 3 undef = .bool b) (hr : RowAt w g l) :
    (results Tryz.f176 tmps).run Tryz.prog w = .ok (.tuple #[.agg (arr l), .bool b]) w := by
  have hp' : tmps[2]?.getD undef = .pointer (some ⟨g, 0, none⟩) := by simpa using hp
  have hb' : tmps[3]?.getD undef = .bool b := by simpa using hb
  simp [results, Tryz.results176, hp', hb', asAddr, hr.load h8]

set_option maxRecDepth 100000 in
set_option maxHeartbeats 4000000 in
theorem parse_any (s : ByteArray) (hs : s.size ≤ 1000000) (p : List Int) (x : Bool) (hp : parI s.data.toList = p) (hx : parB s.data.toList = x) (m : Int) (w : World) (hm : At m w) :
    Calls Tryz.prog 176 #[.string s] w fun e W' => e = .returned (.tuple #[.agg (arr p), .bool x]) ∧ Below w.heap.size w W' := by
  have hk := par_K s.data.toList
  have hI : parI s.data.toList = if parB s.data.toList then ints (fill (valL (cutL s.data.toList).1) (valL (cutL s.data.toList).2.1)) else zero8 := rfl
  rw [hx] at hk hI
  rw [hp] at hI
  have hsz := cut_size s.data.toList
  have HB0 := Lib.hid (show Below w.heap.size w (w.alloc (.cells (arr zero8) 22)) from (Below.refl _ w).alloc (Nat.le_refl _) _)
  have HR0 := Lib.hid (RowAt.new w zero8)
  have HM0 := Lib.hid (hm.later HB0.out)
  obtain ⟨a, ha⟩ : ∃ a : ByteArray, (⟨(cutL s.data.toList).1.toArray⟩ : ByteArray) = a := ⟨_, rfl⟩
  obtain ⟨b, hb⟩ : ∃ b : ByteArray, (⟨(cutL s.data.toList).2.1.toArray⟩ : ByteArray) = b := ⟨_, rfl⟩
  obtain ⟨c, hc⟩ : ∃ c, (cutL s.data.toList).2.2 = c := ⟨_, rfl⟩
  have ea : (cutL s.data.toList).1 = a.data.toList := by rw [← ha]
  have eb : (cutL s.data.toList).2.1 = b.data.toList := by rw [← hb]
  have hcut := Lib.hid (fun u (hu : At m u) => cut_at s hs a b c ha hb hc m u hu)
  rw [ea, eb] at hk hI hsz
  rw [hc] at hk
  have hl : s.data.toList.length = s.size := rfl
  have hpa := Lib.hid (fun u (hu : At m u) => pieces_any a (by have : a.data.toList.length = a.size := rfl; omega) m u hu)
  have hpb := Lib.hid (fun u (hu : At m u) => pieces_any b (by have : b.data.toList.length = b.size := rfl; omega) m u hu)
  have HVa := Lib.hid (show okK a.data.toList = true → valK a.data.toList = valL a.data.toList from fun h => by unfold valK; rw [h]; rfl)
  have HVb := Lib.hid (show okK b.data.toList = true → valK b.data.toList = valL b.data.toList from fun h => by unfold valK; rw [h]; rfl)
  have HLa := Lib.hid (valK_len a.data.toList)
  have HLb := Lib.hid (valK_len b.data.toList)
  have HK := Lib.hid hk
  have HI := Lib.hid hI
  clear hk hI hsz ha hb hc ea eb hl hm hp hx hs
  generalize valL a.data.toList = La at HVa HI
  generalize valL b.data.toList = Lb at HVb HI
  generalize okK a.data.toList = oa at hpa HVa HK
  generalize okK b.data.toList = ob at hpb HVb HK
  generalize valK a.data.toList = Va at hpa HVa HK HLa
  generalize valK b.data.toList = Vb at hpb HVb HK HLb
  go_enter Tryz.func176, Tryz.ntmps176
  go_wp2_with fail
  rw [zero_arr]
  generalize w.alloc (.cells (arr zero8) 22) = W at HB0 HR0 HM0 ⊢
  refine (hcut.out _ HM0.out).mono ?_
  rintro e w1 ⟨rfl, hB1⟩
  go_wp2_with fail
  refine (hpa.out _ (HM0.out.later hB1)).mono ?_
  rintro e w2 ⟨va, rfl, hIa, hB2⟩
  go_wp2_with fail
  refine (hpb.out _ ((HM0.out.later hB1).later hB2)).mono ?_
  rintro e w3 ⟨vb, rfl, hIb, hB3⟩
  have HR3 := Lib.hid (((HR0.out.later hB1).later hB2).later hB3)
  have HB3 := Lib.hid (Ascii.below4 HB0.out hB1 hB2 hB3)
  have HIa := Lib.hid (hIa.later hB3)
  have HIb := Lib.hid hIb
  clear hIa hIb hB1 hB2 hB3 HR0 HB0 HM0 hcut hpa hpb
  have HBS := Lib.hid (show ∀ k : List Int, Below w.heap.size w (w3.setRow w.heap.size (arr k)) from fun k => below_setRow HB3.out (Nat.le_refl _) _)
  have HRS := Lib.hid (show ∀ k : List Int, RowAt (w3.setRow w.heap.size (arr k)) w.heap.size k from fun k => HR3.out.row k)
  cases oa
  · have HNo := Lib.hid (show x = false ∧ p = zero8 by
      have h1 := HK.out
      simp only [Bool.false_and] at h1
      have h2 := HI.out
      rw [h1] at h2
      exact ⟨h1, h2⟩)
    go_wp2_with (refine wp_store22 rfl _ _ rfl _ rfl zero8 rfl rfl zero8 rfl HR3.out ?_)
    obtain ⟨rfl, rfl⟩ := HNo.out
    exact bodyPost_ret (results10 _ _ _ zero8 rfl false rfl rfl (HRS.out zero8)) rfl ⟨rfl, HBS.out zero8⟩
  cases ob
  · have HNo := Lib.hid (show x = false ∧ p = zero8 by
      have h1 := HK.out
      simp only [Bool.false_and, Bool.and_false] at h1
      have h2 := HI.out
      rw [h1] at h2
      exact ⟨h1, h2⟩)
    go_wp2_with (refine wp_store22 rfl _ _ rfl _ rfl zero8 rfl rfl zero8 rfl HR3.out ?_)
    obtain ⟨rfl, rfl⟩ := HNo.out
    exact bodyPost_ret (results10 _ _ _ zero8 rfl false rfl rfl (HRS.out zero8)) rfl ⟨rfl, HBS.out zero8⟩
  obtain ⟨Aa, ca, rfl⟩ := HIa.out.slice
  obtain ⟨Ab, cb, rfl⟩ := HIb.out.slice
  obtain ⟨na, hna⟩ : ∃ na, Va.length = na := ⟨_, rfl⟩
  obtain ⟨nb, hnb⟩ : ∃ nb, Vb.length = nb := ⟨_, rfl⟩
  have hba : na ≤ 9 := by have := HLa.out; omega
  have hbb : nb ≤ 9 := by have := HLb.out; omega
  rw [hna] at HIa ⊢
  rw [hnb] at HIb ⊢
  cases hfit : fitB (na + nb) c
  · have HNo := Lib.hid (show x = false ∧ p = zero8 by
      have h1 := HK.out
      rw [hna, hnb, hfit] at h1
      simp only [Bool.and_false] at h1
      have h2 := HI.out
      rw [h1] at h2
      exact ⟨h1, h2⟩)
    have HF := Lib.hid hfit
    clear hfit hna hnb
    go_wp2_with (first | (go_at_call 198; refine (fit_any (na + nb) c false HF.out _ (by omega) _).mono ?_; rintro e w' ⟨rfl, rfl⟩) | refine wp_store22 rfl _ _ rfl _ rfl zero8 rfl rfl zero8 rfl HR3.out ?_)
    obtain ⟨rfl, rfl⟩ := HNo.out
    exact bodyPost_ret (results10 _ _ _ zero8 rfl false rfl rfl (HRS.out zero8)) rfl ⟨rfl, HBS.out zero8⟩
  · have HYes := Lib.hid (show x = true ∧ p = ints (fill Va Vb) by
      have h1 := HK.out
      rw [hna, hnb, hfit] at h1
      simp only [Bool.and_true] at h1
      have h2 := HI.out
      rw [h1, ← HVa.out rfl, ← HVb.out rfl] at h2
      exact ⟨h1, h2⟩)
    have hle : na + nb ≤ 8 := by
      unfold fitB at hfit
      cases c
      · simp at hfit; omega
      · simp at hfit; omega
    obtain ⟨q, hq⟩ : ∃ q, q + nb = 8 := ⟨8 - nb, by omega⟩
    have eq8 : (8 : Int) - (nb : Int) = (q : Int) := by omega
    have HF := Lib.hid hfit
    have hR5 := RowAt.new w3 zero8
    have hB5 : Below w3.heap.size w3 (w3.alloc (.cells (arr zero8) 22)) := (Below.refl _ w3).alloc (Nat.le_refl _) _
    have hIa5 : Ints (w3.alloc (.cells (arr zero8) 22)) (.slice Aa na ca) Va := by have := HIa.out.later hB5; exact this
    have hIb5 : Ints (w3.alloc (.cells (arr zero8) 22)) (.slice Ab nb cb) Vb := by have := HIb.out.later hB5; exact this
    obtain ⟨W6, hc6, hR6, hB6⟩ := copy_ints rfl hR5 hIa5 0 8 8 (by omega) (by omega)
    have hIb6 : Ints W6 (.slice Ab nb cb) Vb := by
      rcases HIb.out with ⟨h1, h2⟩ | ⟨g, cap, h1, h2, h3, h4⟩
      · exact .inl ⟨h1, h2⟩
      · exact .inr ⟨g, cap, h1, by have := hB6.size; have := hB5.size; omega, h3, fun j hj => (hB6.cell (p := ⟨g, j, none⟩) h2).trans ((hB5.cell (p := ⟨g, j, none⟩) h2).trans (h4 j hj))⟩
    have ho : offOf q + nb ≤ 8 := by unfold offOf; split <;> omega
    obtain ⟨W7, hc7, hR7, hB7⟩ := copy_ints (by simp [ints, zero8]; omega) hR6 hIb6 (offOf q) (8 - q) (8 - q) (by omega) (by omega)
    have hfin : (zero8.take 0 ++ ints Va ++ zero8.drop (0 + Va.length)).take (offOf q) ++ ints Vb ++ (zero8.take 0 ++ ints Va ++ zero8.drop (0 + Va.length)).drop (offOf q + Vb.length) = ints (fill Va Vb) := by
      rw [← fill_copy Va Vb (by omega) q (by omega)]
      exact off_copy _ (by simp [ints, zero8]; omega) Vb q (by omega)
    rw [hfin] at hR7
    have hlF : (ints (fill Va Vb)).length = 8 := by unfold fill; simp [ints]; omega
    have hlt3 : w.heap.size < w3.heap.size := HR3.out.lt
    have hRz : RowAt W7 w.heap.size zero8 := ((HR3.out.below hB5 hlt3).below hB6 hlt3).below hB7 hlt3
    have HE := Lib.hid (show RowAt W7 w3.heap.size (ints (fill Va Vb)) ∧ RowAt W7 w.heap.size zero8 ∧ (ints (fill Va Vb)).length = 8 ∧ RowAt (W7.setRow w.heap.size (arr (ints (fill Va Vb)))) w.heap.size (ints (fill Va Vb)) ∧ Below w.heap.size w (W7.setRow w.heap.size (arr (ints (fill Va Vb)))) from
      ⟨hR7, hRz, hlF, hRz.row _, below_setRow (HB3.out.trans ((hB5.mono (by omega)).trans ((hB6.mono (by omega)).trans (hB7.mono (by omega))))) (Nat.le_refl _) _⟩)
    have hc6' : ∀ ty, (Builtin.copy_ #[141, 141] ty #[.slice (some ⟨w3.heap.size, 0, none⟩) 8 8, .slice Aa na ca]).run Tryz.prog (w3.alloc (.cells #[.int .i64 0, .int .i64 0, .int .i64 0, .int .i64 0, .int .i64 0, .int .i64 0, .int .i64 0, .int .i64 0] 22)) = .ok (goInt Va.length) W6 := hc6
    have hcA := cut8_all w3.heap.size
    have hcF := cut8_from w3.heap.size q (by omega)
    generalize offOf q = O at hc7 hcF
    generalize ints (fill Va Vb) = F at HYes HE
    clear hc6 hR5 hB5 hIa5 hIb5 hIb6 hR6 hB6 hR7 hB7 hfin hlF hRz ho hfit hna hnb hlt3
    go_wp2_with (first | (go_at_call 198; refine (fit_any (na + nb) c true HF.out _ (by omega) _).mono ?_; rintro e w' ⟨rfl, rfl⟩) | refine wp_load22 rfl _ rfl _ rfl F HE.out.2.2.1 HE.out.1 ?_ | refine wp_store22 rfl _ _ rfl _ rfl F rfl HE.out.2.2.1 zero8 rfl HE.out.2.1 ?_)
    obtain ⟨rfl, rfl⟩ := HYes.out
    exact bodyPost_ret (results10 _ _ _ p HE.out.2.2.1 true rfl rfl HE.out.2.2.2.1) rfl ⟨rfl, HE.out.2.2.2.2⟩




theorem wpList_taken {P : Program} {ops : Array Oper} {Q : Exit → Act → World → Prop} {a : Act} {w : World} {rest : List Oper} {o : Oper} (hw : Region.wanted o (yielded ops a.tmps) = true)
    (h : ∀ K : Act → World → Prop, (∀ a w, wpList P ops Q rest a w → K a w) → o.wp P a w K Q) : wpList P ops Q (o :: rest) a w :=
  wpList_step fun K hK => by rw [if_pos hw]; exact h K hK

/-- A whole array, under a guard that is met. -/
theorem wp_load22g {ops : Array Oper} {rest : List Oper} {o : Oper} {a : Act} {w : World} {Q : Exit → Act → World → Prop} (hgd : Region.wanted o (yielded ops a.tmps) = true) (x : Operand) (ho : o.op = .load 22 x) (g : Nat) (hx : a.eval x = .pointer (some ⟨g, 0, none⟩))
    (l : List Int) (h8 : l.length = 8) (hr : RowAt w g l) (h : wpList Tryz.prog ops Q rest (a.put o.dst (.agg (arr l))) w) : wpList Tryz.prog ops Q (o :: rest) a w :=
  wpList_taken hgd fun _ hK => wp_load_row 22 x ho g hx 22 (arr l) (0, 0) _ hr Tryz.underlying22 rfl (by rw [arr_size, h8]; exact size22) (hK _ _ h)

def ex0 : List Int := [1, 0, 0, 2, 0, 0, 0, 3]

theorem hexN_digit (n : Nat) (h : n < 10) : hexN n = [UInt8.ofNat (48 + n)] := by rw [hexN_lt (by omega)]; unfold hexC; rw [if_pos h]

theorem texts_ex : texts ex0 = [[49], [48], [48], [50], [48], [48], [48], [51]] := by
  show [hexN 1, hexN 0, hexN 0, hexN 2, hexN 0, hexN 0, hexN 0, hexN 3] = _
  rw [hexN_digit 1 (by omega), hexN_digit 0 (by omega), hexN_digit 2 (by omega), hexN_digit 3 (by omega)]
  rfl

theorem texts_zero : texts zero8 = [[48], [48], [48], [48], [48], [48], [48], [48]] := by
  show [hexN 0, hexN 0, hexN 0, hexN 0, hexN 0, hexN 0, hexN 0, hexN 0] = _
  rw [hexN_digit 0 (by omega)]
  rfl

theorem run_ex : runP ex0 = (4, 3) := by decide +kernel

theorem run_zero : runP zero8 = (0, 8) := by decide +kernel

theorem may_ex : mayP ex0 = true := by decide +kernel

theorem may_zero : mayP zero8 = true := by decide +kernel

theorem show_ex : showS ex0 = [49, 58, 48, 58, 48, 58, 50, 58, 58, 51] := by
  unfold showS showIn
  rw [may_ex, run_ex, texts_ex]
  rfl

theorem show_zero : showS zero8 = [58, 58] := by
  unfold showS showIn
  rw [may_zero, run_zero, texts_zero]
  rfl

theorem ex_parse1 (m : Int) (w : World) (hm : At m w) : Calls Tryz.prog 176 #[.string ⟨#[49, 58, 48, 58, 48, 58, 50, 58, 58, 51]⟩] w fun e W' => e = .returned (.tuple #[.agg (arr ex0), .bool true]) ∧ Below w.heap.size w W' := by
  have h := par_show ex0 rfl may_ex
  rw [show_ex] at h
  exact parse_any ⟨#[49, 58, 48, 58, 48, 58, 50, 58, 58, 51]⟩ (by decide) _ _ h.2 h.1 m w hm

theorem ex_parse2 (m : Int) (w : World) (hm : At m w) : Calls Tryz.prog 176 #[.string ⟨#[58, 58]⟩] w fun e W' => e = .returned (.tuple #[.agg (arr zero8), .bool true]) ∧ Below w.heap.size w W' := by
  have h := par_show zero8 rfl may_zero
  rw [show_zero] at h
  exact parse_any ⟨#[58, 58]⟩ (by decide) _ _ h.2 h.1 m w hm

theorem ex_run (w : World) : Calls Tryz.prog 149 #[.agg (arr ex0)] w fun e w' => e = .returned (.tuple #[.int .i64 4, .int .i64 3]) ∧ Below w.heap.size w w' := by
  have := run_any ex0 rfl w
  rw [run_ex] at this
  exact this

theorem ex_show1 (m : Int) (w : World) (hm : At m w) : Calls Tryz.prog 116 #[.agg (arr ex0)] w fun e W' => e = .returned (.string ⟨#[49, 58, 48, 58, 48, 58, 50, 58, 58, 51]⟩) ∧ Below w.heap.size w W' := show_any ex0 rfl _ (by rw [show_ex]) m w hm

theorem ex_show2 (m : Int) (w : World) (hm : At m w) : Calls Tryz.prog 116 #[.agg (arr zero8)] w fun e W' => e = .returned (.string ⟨#[58, 58]⟩) ∧ Below w.heap.size w W' := show_any zero8 rfl _ (by rw [show_zero]) m w hm

/-- What awake's three arrays hold. -/
structure Three (m : Int) (g1 g2 g3 : Nat) (W : World) : Prop where
  r1 : RowAt W g1 ex0
  r2 : RowAt W g2 ex0
  r3 : RowAt W g3 zero8
  at_ : At m W

theorem Three.later {m : Int} {g1 g2 g3 : Nat} {W U : World} (h : Three m g1 g2 g3 W) (hB : Below W.heap.size W U) : Three m g1 g2 g3 U := ⟨h.r1.later hB, h.r2.later hB, h.r3.later hB, h.at_.later hB⟩



/-- A letter from a to f as a capital one. -/
def upF (c : UInt8) : UInt8 := if 97 ≤ c.toNat ∧ c.toNat ≤ 102 then c - 32 else c

theorem upF_all : ∀ n : Fin 256, hexV (upF (UInt8.ofNat n.val)) = hexV (UInt8.ofNat n.val) ∧ (upF (UInt8.ofNat n.val) = 58 ↔ UInt8.ofNat n.val = 58) ∧ ((97 ≤ n.val ∧ n.val ≤ 102) → (upF (UInt8.ofNat n.val)).toNat = n.val - 32) := by decide +kernel

theorem upF_at (c : UInt8) : hexV (upF c) = hexV c ∧ (upF c = 58 ↔ c = 58) ∧ ((97 ≤ c.toNat ∧ c.toNat ≤ 102) → (upF c).toNat = c.toNat - 32) := by
  have h := upF_all ⟨c.toNat, c.toNat_lt⟩
  simp only [UInt8.ofNat_toNat] at h
  exact h

theorem upF_hex (c : UInt8) : hexV (upF c) = hexV c := (upF_at c).1

theorem upF_colon (c : UInt8) : upF c = 58 ↔ c = 58 := (upF_at c).2.1

theorem upF_other (c : UInt8) (h : ¬ (97 ≤ c.toNat ∧ c.toNat ≤ 102)) : upF c = c := by unfold upF; rw [if_neg h]

/-- A change of bytes that a piece's text does not see. -/
structure Unseen (f : UInt8 → UInt8) : Prop where
  hex : ∀ c, hexV (f c) = hexV c
  colon : ∀ c, f c = 58 ↔ c = 58

theorem upF_unseen : Unseen upF := ⟨upF_hex, upF_colon⟩

theorem up_parts {f : UInt8 → UInt8} (hf : Unseen f) (l : List UInt8) : parts (l.map f) = (parts l).map (List.map f) := by
  induction l with
  | nil => rfl
  | cons c r ih =>
    rw [List.map_cons]
    unfold parts
    by_cases h : c = 58
    · rw [if_pos ((hf.colon c).2 h), if_pos h, ih]; rfl
    · rw [if_neg (fun e => h ((hf.colon c).1 e)), if_neg h, ih]
      cases hp : parts r with
      | nil => exact absurd hp (parts_ne r)
      | cons x t => rfl

theorem up_cut {f : UInt8 → UInt8} (hf : Unseen f) (l : List UInt8) : cutL (l.map f) = ((cutL l).1.map f, (cutL l).2.1.map f, (cutL l).2.2) := by
  fun_induction cutL l with
  | case1 r =>
    have e : f 58 = 58 := (hf.colon 58).2 rfl
    rw [List.map_cons, List.map_cons, e]
    rfl
  | case2 c r hne ih =>
    rw [List.map_cons, cutL_ne _ _ ?_, ih]
    · rfl
    · by_cases hc : c = 58
      · right
        intro h
        cases r with
        | nil => simp at h
        | cons d r =>
          simp only [List.map_cons, List.head?_cons, Option.some.injEq] at h
          have hd := (hf.colon d).1 h
          subst hc
          subst hd
          exact absurd rfl (hne r rfl)
      · exact .inl fun e => hc ((hf.colon c).1 e)
  | case3 => rfl

theorem up_okP {f : UInt8 → UInt8} (hf : Unseen f) (t : List UInt8) : okP (t.map f) = okP t := by
  unfold okP
  rw [List.length_map, List.all_map]
  congr 2
  refine congrArg (fun f => List.all t f) (funext fun c => ?_)
  show okC (f c) = okC c
  unfold okC
  rw [hf.hex]

theorem up_val {f : UInt8 → UInt8} (hf : Unseen f) (t : List UInt8) : valN (t.map f) = valN t := by
  unfold valN
  rw [List.foldl_map]
  simp only [hf.hex]

theorem up_okL {f : UInt8 → UInt8} (hf : Unseen f) (l : List UInt8) : okL (l.map f) = okL l := by
  unfold okL
  rw [up_parts hf, List.all_map, List.isEmpty_map]
  congr 1
  exact congrArg (fun f => List.all (parts l) f) (funext fun t => up_okP hf t)

theorem up_valL {f : UInt8 → UInt8} (hf : Unseen f) (l : List UInt8) : valL (l.map f) = valL l := by
  unfold valL
  rw [up_parts hf, List.map_map, List.isEmpty_map]
  congr 1
  exact List.map_congr_left fun t _ => up_val hf t

theorem up_parB {f : UInt8 → UInt8} (hf : Unseen f) (l : List UInt8) : parB (l.map f) = parB l := by
  unfold parB
  rw [up_cut hf]
  simp only [up_okL hf, up_valL hf]

theorem up_parI {f : UInt8 → UInt8} (hf : Unseen f) (l : List UInt8) : parI (l.map f) = parI l := by
  unfold parI
  rw [up_parB hf, up_cut hf]
  simp only [up_valL hf]

/-! ### Bytes changed one by one -/

/-- The first k changed. -/
def mixF (f : UInt8 → UInt8) (l : List UInt8) (k : Nat) : List UInt8 := (l.take k).map f ++ l.drop k

theorem mixF_length (f : UInt8 → UInt8) (l : List UInt8) (k : Nat) (h : k ≤ l.length) : (mixF f l k).length = l.length := by simp [mixF]; omega

theorem mixF_get? (f : UInt8 → UInt8) (l : List UInt8) (k : Nat) (h : k < l.length) : (mixF f l k)[k]? = some l[k] := by
  have hl : ((l.take k).map f).length = k := by simp; omega
  unfold mixF
  rw [List.getElem?_append_right (by omega), hl, Nat.sub_self, List.drop_eq_getElem_cons h]
  rfl

theorem mixF_get (f : UInt8 → UInt8) (l : List UInt8) (k : Nat) (h : k < l.length) (h' : k < (mixF f l k).length) : (mixF f l k)[k] = l[k] :=
  Option.some.inj ((List.getElem?_eq_getElem h').symm.trans (mixF_get? f l k h))

theorem mixF_set (f : UInt8 → UInt8) (l : List UInt8) (k : Nat) (h : k < l.length) : (mixF f l k).set k (f l[k]) = mixF f l (k + 1) := by
  unfold mixF
  have hl : ((l.take k).map f).length = k := by simp; omega
  rw [List.set_append_right _ _ (by omega), hl, Nat.sub_self, List.drop_eq_getElem_cons h, List.set_cons_zero, List.take_succ_eq_append_getElem h, List.map_append, List.append_assoc]
  rfl

theorem mixF_keep (f : UInt8 → UInt8) (l : List UInt8) (k : Nat) (h : k < l.length) (hc : f l[k] = l[k]) : mixF f l k = mixF f l (k + 1) := by
  unfold mixF
  rw [List.drop_eq_getElem_cons h, List.take_succ_eq_append_getElem h, List.map_append, List.append_assoc]
  simp [hc]

theorem mixF_zero (f : UInt8 → UInt8) (l : List UInt8) : mixF f l 0 = l := by simp [mixF]

theorem mixF_all (f : UInt8 → UInt8) (l : List UInt8) : mixF f l l.length = l.map f := by simp [mixF]



theorem joinC_snoc (ts : List (List UInt8)) (t : List UInt8) (h : ts ≠ []) : joinC (ts ++ [t]) = joinC ts ++ 58 :: t := by
  induction ts with
  | nil => exact absurd rfl h
  | cons x r ih =>
    cases r with
    | nil => rfl
    | cons y r =>
      show x ++ 58 :: joinC ((y :: r) ++ [t]) = (x ++ 58 :: joinC (y :: r)) ++ 58 :: t
      rw [ih (by simp), List.append_assoc, List.cons_append]

theorem joinC_last (ts : List (List UInt8)) (hT : Texts ts) (h : ts ≠ []) : ∃ r c, joinC ts = r ++ [c] ∧ c ≠ 58 := by
  induction ts with
  | nil => exact absurd rfl h
  | cons x r ih =>
    cases r with
    | nil =>
      obtain ⟨h1, h2⟩ := hT x (by simp)
      refine ⟨x.dropLast, x.getLast h2, (List.dropLast_concat_getLast h2).symm, fun e => h1 ?_⟩
      rw [← e]
      exact List.getLast_mem h2
    | cons y r =>
      obtain ⟨a, c, e, hc⟩ := ih (fun t ht => hT t (List.mem_cons_of_mem _ ht)) (by simp)
      exact ⟨x ++ 58 :: a, c, by show x ++ 58 :: joinC (y :: r) = _; rw [e]; simp, hc⟩

theorem Texts.take {ts : List (List UInt8)} (h : Texts ts) (k : Nat) : Texts (ts.take k) := fun t ht => h t (List.mem_of_mem_take ht)

theorem Texts.drop {ts : List (List UInt8)} (h : Texts ts) (k : Nat) : Texts (ts.drop k) := fun t ht => h t (List.mem_of_mem_drop ht)

/-- The first i, with two colons in place of those from place a on, n of them. -/
def shortTo (ts : List (List UInt8)) (a n i : Nat) : List UInt8 := if i ≤ a then joinC (ts.take i) else joinC (ts.take a) ++ 58 :: 58 :: joinC ((ts.take i).drop (a + n))

theorem short_zero (ts : List (List UInt8)) (a n : Nat) : shortTo ts a n 0 = [] := by simp [shortTo, joinC]

theorem short_at (ts : List (List UInt8)) (a n : Nat) (hn : 1 ≤ n) : shortTo ts a n (a + 1) = shortTo ts a n a ++ [58, 58] := by
  unfold shortTo
  rw [if_neg (by omega), if_pos (Nat.le_refl _), List.drop_eq_nil_of_le (by simp; omega)]
  rfl

theorem short_in (ts : List (List UInt8)) (a n i : Nat) (h1 : a < i) (h2 : i < a + n) : shortTo ts a n (i + 1) = shortTo ts a n i := by
  unfold shortTo
  rw [if_neg (by omega), if_neg (by omega), List.drop_eq_nil_of_le (by simp; omega), List.drop_eq_nil_of_le (by simp; omega)]

theorem take_snocT (ts : List (List UInt8)) (i : Nat) (h : i < ts.length) : ts.take (i + 1) = ts.take i ++ [ts[i]] := List.take_succ_eq_append_getElem h

theorem short_step (ts : List (List UInt8)) (hT : Texts ts) (a n i : Nat) (hn : 1 ≤ n) (hi : i < ts.length) (h : i < a ∨ a + n ≤ i) :
    (shortTo ts a n i = [] ∧ shortTo ts a n (i + 1) = ts[i]) ∨ (∃ r, shortTo ts a n i = r ++ [58] ∧ shortTo ts a n (i + 1) = shortTo ts a n i ++ ts[i]) ∨
    (∃ r c, c ≠ 58 ∧ shortTo ts a n i = r ++ [c] ∧ shortTo ts a n (i + 1) = shortTo ts a n i ++ 58 :: ts[i]) := by
  rcases h with h | h
  · unfold shortTo
    rw [if_pos (by omega), if_pos (by omega), take_snocT ts i hi]
    by_cases h0 : i = 0
    · subst h0; exact .inl ⟨rfl, rfl⟩
    · have hne : ts.take i ≠ [] := by
        intro e
        have := congrArg List.length e
        rw [List.length_take, List.length_nil] at this
        omega
      obtain ⟨r, c, e, hc⟩ := joinC_last (ts.take i) (hT.take i) hne
      exact .inr (.inr ⟨r, c, hc, e, joinC_snoc _ _ hne⟩)
  · unfold shortTo
    rw [if_neg (by omega), if_neg (by omega), take_snocT ts i hi, List.drop_append_of_le_length (by simp; omega)]
    by_cases h0 : i = a + n
    · have e : (ts.take i).drop (a + n) = [] := List.drop_eq_nil_of_le (by simp; omega)
      rw [e]
      exact .inr (.inl ⟨joinC (ts.take a) ++ [58], by simp [joinC], by simp [joinC]⟩)
    · have hne : (ts.take i).drop (a + n) ≠ [] := by
        intro e
        have := congrArg List.length e
        simp at this
        omega
      obtain ⟨r, c, e, hc⟩ := joinC_last _ ((hT.take i).drop (a + n)) hne
      refine .inr (.inr ⟨joinC (ts.take a) ++ 58 :: 58 :: r, c, hc, by rw [e]; simp, ?_⟩)
      rw [joinC_snoc _ _ hne]
      simp

theorem short_all (ts : List (List UInt8)) (h8 : ts.length = 8) (a n : Nat) (h : a + n ≤ 8) (hn : 1 ≤ n) : shortTo ts a n 8 = gapped a n ts := by
  unfold shortTo gapped
  rw [if_neg (by omega), show ts.take 8 = ts from List.take_of_length_le (by omega)]

theorem short_whole (ts : List (List UInt8)) (h8 : ts.length = 8) (n : Nat) : shortTo ts 8 n 8 = joinC ts := by
  unfold shortTo
  rw [if_pos (Nat.le_refl _), List.take_of_length_le (by omega)]

theorem short_len (ts : List (List UInt8)) (h8 : ts.length = 8) (h : ∀ t ∈ ts, t.length ≤ 4) (a n i : Nat) (hn : 1 ≤ n) : (shortTo ts a n i).length ≤ 100 := by
  have key : ∀ us : List (List UInt8), us.length ≤ 8 → (∀ t ∈ us, t.length ≤ 4) → (joinC us).length ≤ 40 := by
    intro us hl hu
    have := lens_le us 4 hu
    rw [joinC_len]
    omega
  have k1 := key (ts.take i) (by simp; omega) (fun t ht => h t (List.mem_of_mem_take ht))
  have k2 := key (ts.take a) (by simp; omega) (fun t ht => h t (List.mem_of_mem_take ht))
  have k3 := key ((ts.take i).drop (a + n)) (by simp; omega) (fun t ht => h t (List.mem_of_mem_take (List.mem_of_mem_drop ht)))
  unfold shortTo
  split
  · omega
  · simp; omega

/-! ### Four digits -/

def quad (n : Nat) : List UInt8 := [hexC (n / 4096), hexC (n / 256 % 16), hexC (n / 16 % 16), hexC (n % 16)]

theorem quad_okP (n : Nat) (h : n ≤ 65535) : okP (quad n) = true := by
  rw [okP_iff]
  refine ⟨by simp [quad], by simp [quad], ?_⟩
  simp only [quad, List.all_cons, List.all_nil, okC_hexC (show n / 4096 < 16 by omega), okC_hexC (show n / 256 % 16 < 16 by omega), okC_hexC (show n / 16 % 16 < 16 by omega), okC_hexC (show n % 16 < 16 by omega)]
  rfl

theorem quad_val (n : Nat) (h : n ≤ 65535) : valN (quad n) = n := by
  simp only [quad, valN, List.foldl_cons, List.foldl_nil, hexV_hexC (show n / 4096 < 16 by omega), hexV_hexC (show n / 256 % 16 < 16 by omega), hexV_hexC (show n / 16 % 16 < 16 by omega), hexV_hexC (show n % 16 < 16 by omega), Int.toNat_natCast]
  omega

def quads (p : List Int) : List (List UInt8) := p.map fun z => quad z.toNat

theorem quads_len (p : List Int) : (quads p).length = p.length := by simp [quads]

theorem quads_okP (p : List Int) (h : mayP p = true) : (quads p).all okP = true := by
  rw [List.all_eq_true]
  intro t ht
  obtain ⟨z, hz, rfl⟩ := List.mem_map.1 ht
  have := (may_iff p).1 h z hz
  exact quad_okP _ (by omega)

theorem quads_val (p : List Int) (h : mayP p = true) : ints ((quads p).map valN) = p := by
  have : ∀ z ∈ p, Int.ofNat (valN (quad z.toNat)) = z := fun z hz => by
    have := (may_iff p).1 h z hz
    rw [quad_val _ (by omega)]
    exact Int.toNat_of_nonneg this.1
  unfold ints quads
  rw [List.map_map, List.map_map]
  conv => rhs; rw [← List.map_id p]
  exact List.map_congr_left this

/-- Noughts laid from place a on, n of them: of the first k. -/
def zeroTo (p : List Int) (a n k : Nat) : List Int := p.mapIdx fun j z => if j < k ∧ a ≤ j ∧ j < a + n then 0 else z

theorem zeroTo_len (p : List Int) (a n k : Nat) : (zeroTo p a n k).length = p.length := by simp [zeroTo]

theorem zeroTo_zero (p : List Int) (a n : Nat) : zeroTo p a n 0 = p := by
  apply List.ext_getElem?
  intro j
  simp [zeroTo]

theorem zeroTo_at (p : List Int) (a n k : Nat) (h : k < p.length) (h' : k < (zeroTo p a n k).length) : (zeroTo p a n k)[k] = p[k] := by simp [zeroTo]

theorem zeroTo_in (p : List Int) (a n k : Nat) (h : k < p.length) (h1 : a ≤ k) (h2 : k < a + n) : (zeroTo p a n k).set k 0 = zeroTo p a n (k + 1) := by
  apply List.ext_getElem
  · simp [zeroTo]
  · intro j h3 h4
    rw [List.getElem_set]
    simp only [zeroTo, List.getElem_mapIdx]
    by_cases e : k = j
    · subst e; rw [if_pos rfl, if_pos ⟨by omega, h1, h2⟩]
    · rw [if_neg e]
      by_cases hc : j < k ∧ a ≤ j ∧ j < a + n
      · rw [if_pos hc, if_pos ⟨by omega, hc.2.1, hc.2.2⟩]
      · rw [if_neg hc, if_neg (by omega)]

theorem zeroTo_out (p : List Int) (a n k : Nat) (h : ¬ (a ≤ k ∧ k < a + n)) : zeroTo p a n (k + 1) = zeroTo p a n k := by
  apply List.ext_getElem
  · simp [zeroTo]
  · intro j h3 h4
    simp only [zeroTo, List.getElem_mapIdx]
    by_cases e : j = k
    · subst e; rw [if_neg (by omega), if_neg (by omega)]
    · by_cases hc : j < k ∧ a ≤ j ∧ j < a + n
      · rw [if_pos hc, if_pos ⟨by omega, hc.2.1, hc.2.2⟩]
      · rw [if_neg hc, if_neg (by omega)]

theorem zeroTo_may (p : List Int) (a n k : Nat) (h : mayP p = true) : mayP (zeroTo p a n k) = true := by
  rw [may_iff] at h ⊢
  intro z hz
  obtain ⟨j, hj, rfl⟩ := List.mem_iff_getElem.1 hz
  simp only [zeroTo, List.getElem_mapIdx]
  split
  · omega
  · exact h _ (List.getElem_mem _)

theorem zeroTo_row (p : List Int) (h8 : p.length = 8) (a n : Nat) (h : a + n ≤ 8) : ∀ j, a ≤ j → j < a + n → ((quads (zeroTo p a n 8)).map valN)[j]? = some 0 := by
  intro j h1 h2
  have hj : j < p.length := by omega
  simp only [quads, zeroTo, List.getElem?_map, List.getElem?_mapIdx, List.getElem?_eq_getElem hj, Option.map_some]
  rw [if_pos ⟨by omega, h1, h2⟩]
  exact congrArg some (quad_val 0 (by omega))

/-- What SixZeros asks of its three texts. -/
theorem zeros_long (p : List Int) (h8 : p.length = 8) (hm : mayP p = true) : parB (joinC (quads p)) = true ∧ parI (joinC (quads p)) = p := by
  obtain ⟨h1, h2⟩ := par_eight (quads p) (quads_okP p hm) (by rw [quads_len, h8])
  exact ⟨h1, by rw [h2, quads_val p hm]⟩

theorem zeros_more (p : List Int) (h8 : p.length = 8) (hm : mayP p = true) : parB (58 :: 58 :: joinC (quads p)) = false := by
  have := (par_gap [] (quads p) rfl (quads_okP p hm)).1
  rw [show (58 :: 58 :: joinC (quads p)) = joinC [] ++ 58 :: 58 :: joinC (quads p) from rfl, this]
  exact decide_eq_false (by simp [quads_len, h8])



/-- A whole value read, the same in every world of the class. -/
theorem quiet_load {P : Program} {C : World → Prop} {o : Oper} {a : Act} {K : Act → Prop} (ty : TypeId) (x : Operand) (ho : o.op = .load ty x) (p : Addr) (hx : a.eval x = .pointer (some p)) (v : Value) (hr : ∀ u, C u → (loadVar ty p).run P u = .ok v u) (hk : K (a.put o.dst v)) : o.quiet P a C K :=
  ⟨_, fun w hw => by
    unfold Oper.quietAt execOp
    simp only [ho, hx, Instr.loadAt, Instr.sureAddr, Sem.run_bind, Sem.run_pure, Result.andThen_ok, hr w hw]
    exact ⟨rfl, rfl⟩, hk⟩

theorem wp_load_of {P : Program} {o : Oper} {a : Act} {w : World} {K : Act → World → Prop} {Q : Exit → Act → World → Prop} (ty : TypeId) (x : Operand) (ho : o.op = .load ty x) (p : Addr) (hx : a.eval x = .pointer (some p)) (v : Value) (hr : (loadVar ty p).run P w = .ok v w)
    (h : K (a.put o.dst v) w) : o.wp P a w K Q := by
  unfold Oper.wp execOp
  simp only [ho, hx, Instr.loadAt, Instr.sureAddr, Sem.run_bind, Sem.run_pure, Result.andThen_ok, hr]
  exact h



/-- The first k texts. -/
def rowT (ts : List (List UInt8)) (k : Nat) : List ByteArray := ts.mapIdx fun j t => if j < k then ⟨t.toArray⟩ else ⟨#[]⟩

theorem rowT_len (ts : List (List UInt8)) (k : Nat) : (rowT ts k).length = ts.length := by simp [rowT]

theorem rowT_next (ts : List (List UInt8)) (k : Nat) (h' : k < (rowT ts k).length) : (rowT ts k)[k] = ⟨#[]⟩ := by simp [rowT]

theorem rowT_set (ts : List (List UInt8)) (k : Nat) (h : k < ts.length) : (rowT ts k).set k ⟨ts[k].toArray⟩ = rowT ts (k + 1) := by
  apply List.ext_getElem
  · simp [rowT]
  · intro j h1 h2
    rw [List.getElem_set]
    simp only [rowT, List.getElem_mapIdx]
    by_cases e : k = j
    · subst e; rw [if_pos rfl, if_pos (by omega)]
    · rw [if_neg e]
      by_cases hc : j < k
      · rw [if_pos hc, if_pos (by omega)]
      · rw [if_neg hc, if_neg (by omega)]

theorem rowT_at (ts : List (List UInt8)) (h8 : ts.length = 8) (j : Nat) (h : j < ts.length) (h' : j < (rowT ts 8).length) : (rowT ts 8)[j] = ⟨ts[j].toArray⟩ := by
  simp only [rowT, List.getElem_mapIdx]
  rw [if_pos (by omega)]

def digs : ByteArray := ⟨#[48, 49, 50, 51, 52, 53, 54, 55, 56, 57, 97, 98, 99, 100, 101, 102]⟩

theorem digs_all : ∀ d : Fin 16, digs[d.val]'(Nat.lt_of_lt_of_eq d.isLt rfl) = hexC d.val := by decide +kernel

theorem digs_at (d : Nat) (h : d < 16) (h' : d < digs.size) : digs[d] = hexC d := digs_all ⟨d, h⟩

theorem digs_lit (d : Nat) (h : d < 16) (h' : d < (⟨#[48, 49, 50, 51, 52, 53, 54, 55, 56, 57, 97, 98, 99, 100, 101, 102]⟩ : ByteArray).size) : (⟨#[48, 49, 50, 51, 52, 53, 54, 55, 56, 57, 97, 98, 99, 100, 101, 102]⟩ : ByteArray)[d]'h' = hexC d := digs_at d h h'

/-- Four bytes as a text. -/
theorem four_conv (w : World) (c1 c2 c3 c4 : UInt8) : (convert 81 9 (.slice (some ⟨w.heap.size, 0, none⟩) 4 4)).run Tryz.prog (w.alloc (.cells #[.int .u8 (c1.toNat : Int), .int .u8 (c2.toNat : Int), .int .u8 (c3.toNat : Int), .int .u8 (c4.toNat : Int)] 5)).drew
    = .ok (.string ⟨#[c1, c2, c3, c4]⟩) (w.alloc (.cells #[.int .u8 (c1.toNat : Int), .int .u8 (c2.toNat : Int), .int .u8 (c3.toNat : Int), .int .u8 (c4.toNat : Int)] 5)).drew := by
  refine run_convert_bytes_back (P := Tryz.prog) _ 81 9 5 ⟨w.heap.size, 0, none⟩ 4 [c1, c2, c3, c4] Tryz.underlying81 Tryz.underlying5 Tryz.underlying9 (fun j hj => ?_)
  have e : (⟨w.heap.size, 0, none⟩ : Addr).add j = ⟨w.heap.size, j, none⟩ := by unfold Addr.add; split <;> simp_all
  rw [e]
  show (w.alloc _).cell? _ = _
  rw [World.cell?_alloc_at _ _ _ _ rfl]
  have hj' : j < 4 := hj
  obtain rfl | rfl | rfl | rfl : j = 0 ∨ j = 1 ∨ j = 2 ∨ j = 3 := by omega
  all_goals rfl

/-- A text's last byte. -/
theorem last_of (x : ByteArray) (r : List UInt8) (c : UInt8) (h : x.data.toList = r ++ [c]) : 0 < x.size ∧ x.toList.isEmpty = false ∧ ∀ h' : x.size - 1 < x.size, x[x.size - 1]'h' = c := by
  have hl : x.size = r.length + 1 := by
    have : x.data.toList.length = x.size := rfl
    rw [← this, h]; simp
  refine ⟨by omega, ?_, fun h' => ?_⟩
  · rw [ByteArray.toList_eq, h]; simp
  · have h1 : x.data.toList[x.size - 1]? = some c := by rw [h, hl]; simp
    have h2 : x.data.toList[x.size - 1]? = some (x[x.size - 1]'h') := List.getElem?_eq_getElem (by exact h')
    rw [h2] at h1
    exact Option.some.inj h1

theorem long_step (ts : List (List UInt8)) (k : Nat) (hk : k < ts.length) (h1 : 1 ≤ k) : joinC (ts.take (max (k + 1) 1)) = joinC (ts.take (max k 1)) ++ 58 :: ts[k] := by
  rw [show max (k + 1) 1 = k + 1 by omega, show max k 1 = k by omega, take_snocT ts k hk]
  refine joinC_snoc _ _ fun e => ?_
  have := congrArg List.length e
  rw [List.length_take, List.length_nil] at this
  omega

theorem bytes_app (a b : List UInt8) : (⟨(a ++ b).toArray⟩ : ByteArray) = ⟨a.toArray⟩ ++ ⟨b.toArray⟩ := by
  apply ByteArray.ext
  simp



set_option maxRecDepth 100000 in
set_option maxHeartbeats 2000000 in
theorem refMay_any (p : List Int) (h8 : p.length = 8) (b : Bool) (hb : mayP p = b) (w : World) : Calls Tryz.prog 104 #[.agg (arr p)] w fun e w' => e = .returned (.bool b) ∧ Below w.heap.size w w' := by
  have HB0 := Lib.hid (show Below w.heap.size w (w.alloc (.cells (arr p) 22)) from (Below.refl _ w).alloc (Nat.le_refl _) _)
  have HR0 := Lib.hid (RowAt.new w p)
  have H8 := Lib.hid h8
  have HB := Lib.hid hb
  clear h8 hb
  go_enter Tryz.func104, Tryz.ntmps104
  go_wp2
  generalize w.alloc (.cells (arr p) 22) = W at HB0 HR0 ⊢
  go_loopw [3] (fun i wr => ∃ k : Nat, k ≤ 8 ∧ i = .int .i64 k ∧ Hid (mayP (p.take k) = true) ∧ wr = W) (fun i _ => 8 - (intOf i).toNat)
  case atStart => exact ⟨0, Nat.zero_le _, rfl, Lib.hid rfl, rfl⟩
  case round =>
    obtain ⟨k, hk, rfl, HA, rfl⟩ := hrel
    by_cases hlt : k < 8
    · have t1 : (k : Int) < 8 := by omega
      have hkp : k < p.length := by have := H8.out; omega
      have hc := HR0.out.cell k hkp
      have hmem : p[k] ∈ p := List.getElem_mem _
      have hts : p.take (k + 1) = p.take k ++ [p[k]] := List.take_succ_eq_append_getElem hkp
      obtain ⟨z, hz⟩ : ∃ z, p[k] = z := ⟨_, rfl⟩
      rw [hz] at hc hmem hts
      by_cases hin : 0 ≤ z ∧ z ≤ 65535
      · have e0 : decide (z < 0) = false := decide_eq_false (by omega)
        have e1 : decide (65535 < z) = false := decide_eq_false (by omega)
        have HN := Lib.hid (show mayP (p.take (k + 1)) = true by
          rw [hts]
          have h := HA.out
          unfold mayP at h ⊢
          rw [List.all_append, h]
          simp [hin.1, hin.2])
        clear hin hz hmem hts hkp HA
        go_wp2
        go_roundw
        case rel => exact ⟨k + 1, by omega, by go_num, HN, by first | trivial | rfl⟩
        case measure => simp [intOf]; omega
      · have HF := Lib.hid (show b = false by
          rw [← HB.out]
          cases e : mayP p
          · rfl
          · exact absurd ((may_iff p).1 e z hmem) hin)
        have hway : decide (z < 0) = true ∨ (decide (z < 0) = false ∧ decide (65535 < z) = true) := by
          by_cases h : z < 0
          · exact .inl (decide_eq_true h)
          · exact .inr ⟨decide_eq_false h, decide_eq_true (by omega)⟩
        clear hin hz hmem hts hkp HA
        rcases hway with e0 | ⟨e0, e1⟩
        all_goals
          go_wp2
          go_ret
          exact ⟨congrArg (fun x => Ending.returned (Value.bool x)) HF.out.symm, HB0.out⟩
    · obtain rfl : k = 8 := by omega
      have HF := Lib.hid (show true = b by
        rw [← HB.out]
        have h := HA.out
        rw [List.take_of_length_le (by have := H8.out; omega)] at h
        exact h.symm)
      clear HA
      go_wp2
      go_ret
      exact ⟨congrArg (fun x => Ending.returned (Value.bool x)) HF.out, HB0.out⟩
/-! ### gap -/

def idx2 (l : List UInt8) : Int := Lib.index l [58, 58]

theorem idx2_cons (c : UInt8) (r : List UInt8) : idx2 (c :: r) = if c = 58 ∧ r.head? = some 58 then 0 else if idx2 r = -1 then -1 else idx2 r + 1 := by
  unfold idx2
  conv => lhs; unfold Lib.index
  have hp : List.isPrefixOf [58, 58] (c :: r) = decide (c = 58 ∧ r.head? = some 58) := by
    cases r with
    | nil => simp [List.isPrefixOf]
    | cons d r =>
      rw [Bool.eq_iff_iff]
      simp [List.isPrefixOf]
      constructor
      · rintro ⟨rfl, rfl⟩; exact ⟨rfl, rfl⟩
      · rintro ⟨rfl, rfl⟩; exact ⟨rfl, rfl⟩
  rw [hp]
  by_cases h : c = 58 ∧ r.head? = some 58
  · rw [if_pos h, if_pos (decide_eq_true h)]
  · rw [if_neg h, if_neg (by rw [decide_eq_false h]; decide)]
    by_cases h2 : Lib.index r [58, 58] = -1
    · rw [if_pos h2]; simp [h2]
    · rw [if_neg h2]; simp [h2]

def gapFrom (l : List UInt8) (i : Nat) : Int := if idx2 (l.drop i) = -1 then -1 else idx2 (l.drop i) + i

theorem gap_zero (l : List UInt8) : gapFrom l 0 = idx2 l := by
  unfold gapFrom
  rw [List.drop_zero]
  split
  · exact (by assumption : idx2 l = -1).symm
  · omega

theorem gap_step (l : List UInt8) (i : Nat) (h : i < l.length) (hn : ¬ (l[i] = 58 ∧ (l.drop (i + 1)).head? = some 58)) : gapFrom l (i + 1) = gapFrom l i := by
  unfold gapFrom
  rw [List.drop_eq_getElem_cons h, idx2_cons, if_neg hn]
  by_cases h2 : idx2 (l.drop (i + 1)) = -1
  · rw [if_pos h2, if_pos h2, if_pos rfl]
  · have hge : -1 ≤ idx2 (l.drop (i + 1)) := Lib.index_ge _ _
    rw [if_neg h2, if_neg h2, if_neg (by omega)]
    omega

theorem gap_hit (l : List UInt8) (i : Nat) (h : i < l.length) (hn : l[i] = 58 ∧ (l.drop (i + 1)).head? = some 58) : gapFrom l i = i := by
  unfold gapFrom
  rw [List.drop_eq_getElem_cons h, idx2_cons, if_pos hn, if_neg (by omega)]
  omega

theorem gap_end (l : List UInt8) (i : Nat) (h : l.length ≤ i + 1) : gapFrom l i = -1 := by
  unfold gapFrom
  have : idx2 (l.drop i) = -1 := by
    cases e : l.drop i with
    | nil => decide +kernel
    | cons c r =>
      have hl := congrArg List.length e
      rw [List.length_drop, List.length_cons] at hl
      obtain rfl : r = [] := List.eq_nil_of_length_eq_zero (by omega)
      rw [idx2_cons, if_neg (by simp)]
      rw [if_pos (by decide +kernel)]
  rw [if_pos this]

theorem head_at (s : ByteArray) (j : Nat) (h : j < s.size) : (s.data.toList.drop j).head? = some s[j] := by
  have h' : j < s.data.toList.length := h
  rw [List.drop_eq_getElem_cons h']
  rfl

theorem dig_cut (d : Nat) (h : d < 16) : (⟨#[48, 49, 50, 51, 52, 53, 54, 55, 56, 57, 97, 98, 99, 100, 101, 102]⟩ : ByteArray).extract d (d + 1) = ⟨#[hexC d]⟩ := by
  have : ∀ d : Fin 16, (⟨#[48, 49, 50, 51, 52, 53, 54, 55, 56, 57, 97, 98, 99, 100, 101, 102]⟩ : ByteArray).extract d.val (d.val + 1) = ⟨#[hexC d.val]⟩ := by decide +kernel
  exact this ⟨d, h⟩

set_option maxRecDepth 100000 in
set_option maxHeartbeats 2000000 in
theorem refText_any (n : Nat) (hn : n ≤ 65535) (x : ByteArray) (hx : (⟨(hexN n).toArray⟩ : ByteArray) = x) (w : World) : Calls Tryz.prog 106 #[.int .i64 n] w fun e w' => e = .returned (.string x) ∧ w = w' := by
  have HX := Lib.hid hx
  clear hx
  go_enter Tryz.func106, Tryz.ntmps106
  go_wp2
  go_loop [0, 4] (fun v s => ∃ (k : Nat) (D : List UInt8), v = .int .i64 k ∧ s = .string ⟨D.toArray⟩ ∧ k ≤ 65535 ∧ Hid (((0 < k ∨ D = []) ∧ hexN n = hexN k ++ D) ∨ (k = 0 ∧ D ≠ [] ∧ hexN n = D))) (fun v s => 2 * (intOf v).toNat + (match s with | .string b => if b.size = 0 then 1 else 0 | _ => 0))
  case atStart => exact ⟨n, [], rfl, rfl, hn, Lib.hid (.inl ⟨.inr rfl, by simp⟩)⟩
  case round =>
    obtain ⟨k, D, rfl, rfl, hk, HJ⟩ := hrel
    have hD4 : D.length ≤ 4 := by
      have h4 := hexN_len 3 n (by omega)
      rcases HJ.out with ⟨_, e⟩ | ⟨_, _, e⟩
      · rw [e, List.length_append] at h4; omega
      · rw [e] at h4; omega
    obtain ⟨sb, hsb⟩ : ∃ sb : ByteArray, (⟨D.toArray⟩ : ByteArray) = sb := ⟨_, rfl⟩
    have hss : sb.size = D.length := by rw [← hsb]; rfl
    have hsz : sb.size ≤ 4 := by omega
    have hse : sb.toList.isEmpty = D.isEmpty := by rw [ByteArray.toList_eq, ← hsb]
    by_cases hgo : 0 < k ∨ D = []
    · have hE : hexN n = hexN k ++ D := by
        rcases HJ.out with ⟨_, e⟩ | ⟨h0, h1, _⟩
        · exact e
        · rcases hgo with h | h
          · omega
          · exact absurd h h1
      obtain ⟨d, hd⟩ : ∃ d : Nat, (k : Int) % 16 = (d : Int) := ⟨k % 16, by omega⟩
      obtain ⟨q, hq⟩ : ∃ q : Nat, (k : Int) / 16 = (q : Int) := ⟨k / 16, by omega⟩
      have hd16 : d < 16 := by omega
      have hcut := dig_cut d hd16
      have HN := Lib.hid (show ((0 < q ∨ (hexC d :: D) = []) ∧ hexN n = hexN q ++ (hexC d :: D)) ∨ (q = 0 ∧ (hexC d :: D) ≠ [] ∧ hexN n = hexC d :: D) by
        by_cases h16 : k < 16
        · refine .inr ⟨by omega, by simp, ?_⟩
          rw [hE, hexN_lt h16, show k = d by omega]; rfl
        · refine .inl ⟨.inl (by omega), ?_⟩
          rw [hE, hexN_ge h16, show k / 16 = q by omega, show k % 16 = d by omega]; simp)
      have HSn := Lib.hid (show (⟨#[hexC d]⟩ : ByteArray) ++ sb = ⟨(hexC d :: D).toArray⟩ by rw [← hsb]; apply ByteArray.ext; simp)
      have HMs := Lib.hid (show 2 * q < 2 * k + (if sb.size = 0 then 1 else 0) by
        rcases hgo with h | h
        · omega
        · rw [if_pos (by rw [hss, h]; rfl)]; omega)
      have hq2 : q ≤ 65535 := by omega
      have hway : decide (0 < k) = true ∨ (decide (0 < k) = false ∧ sb.toList.isEmpty = true) := by
        by_cases h : 0 < k
        · exact .inl (decide_eq_true h)
        · rcases hgo with h' | h'
          · exact absurd h' h
          · exact .inr ⟨decide_eq_false h, by rw [hse, h']; rfl⟩
      generalize hexC d = hc at hcut HN HSn
      rw [hsb]
      clear hgo hE hse hss hsb HJ hD4
      rcases hway with e0 | ⟨e0, e1⟩
      all_goals
        go_wp2
        go_round
        case rel => exact ⟨q, hc :: D, rfl, by rw [HSn.out], hq2, HN⟩
        case measure =>
          have h1 := HMs.out
          have h2 : ((⟨#[hc]⟩ : ByteArray) ++ sb).size ≠ 0 := by rw [HSn.out]; show (hc :: D).length ≠ 0; simp
          show 2 * ((q : Int)).toNat + (if ((⟨#[hc]⟩ : ByteArray) ++ sb).size = 0 then 1 else 0) < 2 * ((k : Int)).toNat + (if sb.size = 0 then 1 else 0)
          rw [if_neg h2]
          omega
    · have hx2 : D = hexN n := by
        rcases HJ.out with ⟨h, _⟩ | ⟨_, _, e⟩
        · exact absurd h hgo
        · exact e.symm
      have e0 : decide (0 < k) = false := decide_eq_false (fun h => hgo (.inl h))
      have e1 : sb.toList.isEmpty = false := by
        rw [hse]
        cases D with
        | nil => exact absurd (.inr rfl) hgo
        | cons c r => rfl
      have HF := Lib.hid (show sb = x by rw [← hsb, hx2]; exact HX.out)
      rw [hsb]
      clear hgo hx2 hse hss hsb HJ hD4
      go_wp2
      go_ret
      exact ⟨congrArg (fun x => Ending.returned (Value.string x)) HF.out, rfl⟩



theorem texts_at (p : List Int) (k : Nat) (h : k < p.length) (h' : k < (texts p).length) : (texts p)[k] = hexN p[k].toNat := by simp [texts]

/-- What a round adds. -/
def Adds (ts : List (List UInt8)) (A N k : Nat) (hk : k < ts.length) (sb tk : ByteArray) : Prop :=
  (sb.toList.isEmpty = true ∧ (⟨(shortTo ts A N (k + 1)).toArray⟩ : ByteArray) = sb ++ tk) ∨ ((0 < sb.size ∧ sb.toList.isEmpty = false ∧ ∀ h : sb.size - 1 < sb.size, (((sb[sb.size - 1]'h).toNat : Int) != 58) = false) ∧ (⟨(shortTo ts A N (k + 1)).toArray⟩ : ByteArray) = sb ++ tk) ∨
  ((0 < sb.size ∧ sb.toList.isEmpty = false ∧ ∀ h : sb.size - 1 < sb.size, (((sb[sb.size - 1]'h).toNat : Int) != 58) = true) ∧ (⟨(shortTo ts A N (k + 1)).toArray⟩ : ByteArray) = sb ++ ⟨#[58]⟩ ++ tk)

theorem adds_of (ts : List (List UInt8)) (hT : Texts ts) (A N k : Nat) (hN : 1 ≤ N) (hk : k < ts.length) (h : k < A ∨ A + N ≤ k) (sb tk : ByteArray) (hsb : (⟨(shortTo ts A N k).toArray⟩ : ByteArray) = sb) (htk : (⟨ts[k].toArray⟩ : ByteArray) = tk) : Adds ts A N k hk sb tk := by
  have hsl : sb.data.toList = shortTo ts A N k := by rw [← hsb]
  rcases short_step ts hT A N k hN hk h with ⟨h3, h4⟩ | ⟨r, h3, h4⟩ | ⟨r, c, hc, h3, h4⟩
  · refine .inl ⟨?_, ?_⟩
    · rw [ByteArray.toList_eq, hsl, h3]; rfl
    · rw [h4, htk, ← hsb, h3]; apply ByteArray.ext; simp
  · obtain ⟨l1, l2, l3⟩ := last_of sb r 58 (hsl.trans h3)
    exact .inr (.inl ⟨⟨l1, l2, fun h => by rw [l3]; rfl⟩, by rw [h4, bytes_app, hsb, htk]⟩)
  · obtain ⟨l1, l2, l3⟩ := last_of sb r c (hsl.trans h3)
    refine .inr (.inr ⟨⟨l1, l2, fun h => ?_⟩, by rw [h4, show (58 :: ts[k]) = [58] ++ ts[k] from rfl, ← List.append_assoc, bytes_app, bytes_app, hsb, htk]⟩)
    rw [l3]
    have : c.toNat ≠ 58 := fun e => hc (UInt8.toNat_inj.1 e)
    simp; omega

set_option maxRecDepth 100000 in
set_option maxHeartbeats 8000000 in
theorem refShow_in (p : List Int) (h8 : p.length = 8) (mp : mayP p = true) (x : ByteArray) (hx : (⟨(showS p).toArray⟩ : ByteArray) = x) (w : World) : Calls Tryz.prog 76 #[.agg (arr p)] w fun e w' => e = .returned (.string x) ∧ Below w.heap.size w w' := by
  obtain ⟨r1, r2, r3, r4⟩ := run_fits p h8
  have hrun := fun u => refRun_any p h8 u
  obtain ⟨a, ha⟩ : ∃ a, (runP p).1 = a := ⟨_, rfl⟩
  obtain ⟨n, hn⟩ : ∃ n, (runP p).2 = n := ⟨_, rfl⟩
  rw [ha, hn] at hrun
  rw [ha, hn] at r1
  rw [hn] at r2
  obtain ⟨ts, hts⟩ : ∃ ts, texts p = ts := ⟨_, rfl⟩
  have HTs := Lib.hid (show ts.length = 8 by rw [← hts]; simp [texts, h8])
  have HOk := Lib.hid (show ts.all okP = true by rw [← hts]; exact texts_okP p mp)
  have HTx := Lib.hid (texts_ok ts HOk.out)
  have H4 := Lib.hid (show ∀ t ∈ ts, t.length ≤ 4 from fun t ht => ((okP_iff t).1 (List.all_eq_true.1 HOk.out t ht)).2.1)
  have HAt := Lib.hid (show ∀ k (h : k < p.length) (h' : k < ts.length), ts[k] = hexN p[k].toNat by subst hts; exact texts_at p)
  have hA : ∃ A N, 1 ≤ N ∧ (⟨(shortTo ts A N 8).toArray⟩ : ByteArray) = x ∧ ((n = 0 ∧ A = 8) ∨ (0 < n ∧ A = a ∧ N = n)) := by
    have hsh : showS p = showIn p := by unfold showS; rw [if_pos mp]
    by_cases h0 : n = 0
    · refine ⟨8, 1, by omega, ?_, .inl ⟨h0, rfl⟩⟩
      rw [short_whole ts HTs.out, ← hx, hsh]
      unfold showIn
      rw [hn, if_pos h0, hts]
    · refine ⟨a, n, by omega, ?_, .inr ⟨by omega, rfl, rfl⟩⟩
      rw [short_all ts HTs.out a n r1 (by omega), ← hx, hsh]
      unfold showIn
      rw [ha, hn, if_neg h0, hts]
  obtain ⟨A, N, hN, hAx, hAn⟩ := hA
  have HN := Lib.hid hN
  have HAx := Lib.hid hAx
  have HAn := Lib.hid hAn
  have HRun := Lib.hid hrun
  have H8 := Lib.hid h8
  have HP := Lib.hid mp
  have HB0 := Lib.hid (show Below w.heap.size w (w.alloc (.cells (arr p) 22)) from (Below.refl _ w).alloc (Nat.le_refl _) _)
  have HR0 := Lib.hid (RowAt.new w p)
  obtain ⟨q, hq⟩ : ∃ q, a + n = q := ⟨_, rfl⟩
  have esum : (a : Int) + (n : Int) = (q : Int) := by omega
  have HQ := Lib.hid (show a + n = q ∧ q ≤ 8 from ⟨hq, by omega⟩)
  have ba : a ≤ 8 := by omega
  have bn : n ≤ 8 := by omega
  clear h8 mp hx r1 r2 r3 r4 hrun ha hn hts hN hAx hAn hq
  go_enter Tryz.func76, Tryz.ntmps76
  go_wp2_with ((with_reducible refine wp_load22 (o := ⟨some 8, .load 22 (.tmp 1), _, _, _, _⟩) ?_ (.tmp 1) ?_ w.heap.size ?_ p H8.out HR0.out ?_); (· rfl); (· rfl); (· rfl))
  refine (refMay_any p H8.out true HP.out _).mono ?_
  rintro e u1 ⟨rfl, hB1⟩
  have HR1 := Lib.hid (HR0.out.later hB1)
  have HB1 := Lib.hid (Ascii.below2 HB0.out hB1)
  clear hB1 HR0 HB0
  go_wp2_with ((with_reducible refine wp_load22 (o := ⟨some 13, .load 22 (.tmp 1), _, _, _, _⟩) ?_ (.tmp 1) ?_ w.heap.size ?_ p H8.out HR1.out ?_); (· rfl); (· rfl); (· rfl))
  refine (HRun.out _).mono ?_
  rintro e U ⟨rfl, hB2⟩
  have HR2 := Lib.hid (HR1.out.later hB2)
  have HB2 := Lib.hid (Ascii.below2 HB1.out hB2)
  clear hB2 HR1 HB1 HRun
  go_wp2
  go_loopw [6, 7] (fun s i wr => ∃ k : Nat, k ≤ 8 ∧ i = .int .i64 k ∧ s = .string ⟨(shortTo ts A N k).toArray⟩ ∧ wr = U) (fun _ i _ => 8 - (intOf i).toNat)
  case atStart => exact ⟨0, Nat.zero_le _, rfl, by rw [short_zero], rfl⟩
  case round =>
    obtain ⟨k, hk, rfl, rfl, rfl⟩ := hrel
    by_cases hlt : k < 8
    · have t1 : (k : Int) < 8 := by omega
      have hkt : k < ts.length := by rw [HTs.out]; exact hlt
      have hkp : k < p.length := by have := H8.out; omega
      have hc := HR2.out.cell k hkp
      have hz := (may_iff p).1 HP.out p[k] (List.getElem_mem _)
      obtain ⟨z, hzz⟩ : ∃ z : Nat, p[k] = (z : Int) := ⟨p[k].toNat, by omega⟩
      have htz := HAt.out k hkp hkt
      rw [hzz] at hc hz htz
      rw [show ((z : Int)).toNat = z by omega] at htz
      obtain ⟨tk, htk⟩ : ∃ tk : ByteArray, (⟨ts[k].toArray⟩ : ByteArray) = tk := ⟨_, rfl⟩
      have cT := Lib.hid (fun u => refText_any z (by omega) tk (by rw [← htz]; exact htk) u)
      obtain ⟨sb, hsb⟩ : ∃ sb : ByteArray, (⟨(shortTo ts A N k).toArray⟩ : ByteArray) = sb := ⟨_, rfl⟩
      have z1 : tk.size ≤ 4 := by rw [← htk]; exact H4.out ts[k] (List.getElem_mem _)
      have z2 : sb.size ≤ 100 := by rw [← hsb]; exact short_len ts HTs.out H4.out A N k HN.out
      have hway : (decide (0 < n) = true ∧ ((k : Int) == (a : Int)) = true ∧ decide (a ≤ k) = true ∧ decide (k < q) = true ∧ Hid ((⟨(shortTo ts A N (k + 1)).toArray⟩ : ByteArray) = sb ++ ⟨#[58, 58]⟩)) ∨
          (decide (0 < n) = true ∧ ((k : Int) == (a : Int)) = false ∧ decide (a ≤ k) = true ∧ decide (k < q) = true ∧ Hid ((⟨(shortTo ts A N (k + 1)).toArray⟩ : ByteArray) = sb)) ∨
          ((decide (0 < n) = false ∨ (decide (0 < n) = true ∧ ((k : Int) == (a : Int)) = false ∧ decide (a ≤ k) = false) ∨ (decide (0 < n) = true ∧ ((k : Int) == (a : Int)) = false ∧ decide (a ≤ k) = true ∧ decide (k < q) = false)) ∧ Hid (Adds ts A N k hkt sb tk)) := by
        obtain ⟨q1, q2⟩ := HQ.out
        rcases HAn.out with ⟨n0, rfl⟩ | ⟨n0, rfl, rfl⟩
        · exact .inr (.inr ⟨.inl (decide_eq_false (by omega)), Lib.hid (adds_of ts HTx.out 8 N k HN.out hkt (.inl hlt) sb tk hsb htk)⟩)
        · have e0 : decide (0 < N) = true := decide_eq_true n0
          by_cases hka : k = A
          · refine .inl ⟨e0, by simp [hka], decide_eq_true (by omega), decide_eq_true (by omega), Lib.hid ?_⟩
            rw [← hsb, hka, short_at ts A N n0, bytes_app]
          · have hb : ((k : Int) == (A : Int)) = false := beq_false_of_ne (by omega)
            by_cases hin : A ≤ k ∧ k < q
            · refine .inr (.inl ⟨e0, hb, decide_eq_true hin.1, decide_eq_true hin.2, Lib.hid ?_⟩)
              rw [short_in ts A N k (by omega) (by omega), hsb]
            · refine .inr (.inr ⟨?_, Lib.hid (adds_of ts HTx.out A N k n0 hkt (by omega) sb tk hsb htk)⟩)
              by_cases h : A ≤ k
              · exact .inr (.inr ⟨e0, hb, decide_eq_true h, decide_eq_false (by omega)⟩)
              · exact .inr (.inl ⟨e0, hb, decide_eq_false h⟩)
      rw [hsb]
      clear hz hzz htz htk hsb
      rcases hway with ⟨e0, e1, e2, e3, HS⟩ | ⟨e0, e1, e2, e3, HS⟩ | ⟨hw3, HAd⟩
      · clear hkt hkp
        go_wp2
        go_roundw
        case rel => first | exact ⟨k + 1, by omega, by go_num, by rw [HS.out], by first | trivial | rfl⟩ | ((repeat apply Exists.intro); exact ⟨⟨k + 1, by omega, by go_num, by rw [HS.out], by first | trivial | rfl⟩, rfl⟩)
        case measure => simp [intOf]; omega
      · clear hkt hkp
        go_wp2
        go_roundw
        case rel => first | exact ⟨k + 1, by omega, by go_num, by rw [HS.out], by first | trivial | rfl⟩ | ((repeat apply Exists.intro); exact ⟨⟨k + 1, by omega, by go_num, by rw [HS.out], by first | trivial | rfl⟩, rfl⟩)
        case measure => simp [intOf]; omega
      · have had : (sb.toList.isEmpty = true ∧ Hid ((⟨(shortTo ts A N (k + 1)).toArray⟩ : ByteArray) = sb ++ tk)) ∨ ((0 < sb.size ∧ sb.toList.isEmpty = false ∧ ∀ h : sb.size - 1 < sb.size, (((sb[sb.size - 1]'h).toNat : Int) != 58) = false) ∧ Hid ((⟨(shortTo ts A N (k + 1)).toArray⟩ : ByteArray) = sb ++ tk)) ∨
            ((0 < sb.size ∧ sb.toList.isEmpty = false ∧ ∀ h : sb.size - 1 < sb.size, (((sb[sb.size - 1]'h).toNat : Int) != 58) = true) ∧ Hid ((⟨(shortTo ts A N (k + 1)).toArray⟩ : ByteArray) = sb ++ ⟨#[58]⟩ ++ tk)) := by
          rcases HAd.out with ⟨h1, h2⟩ | ⟨h1, h2⟩ | ⟨h1, h2⟩
          · exact .inl ⟨h1, Lib.hid h2⟩
          · exact .inr (.inl ⟨h1, Lib.hid h2⟩)
          · exact .inr (.inr ⟨h1, Lib.hid h2⟩)
        clear HAd hkt hkp
        rcases hw3 with e0 | ⟨e0, e1, e2⟩ | ⟨e0, e1, e2, e3⟩
        all_goals
          rcases had with ⟨m1, HS⟩ | ⟨⟨m1, m2, m3⟩, HS⟩ | ⟨⟨m1, m2, m3⟩, HS⟩
          all_goals
            go_wp2_with (go_at_call 106; refine (cT.out _).mono ?_; rintro e w' ⟨rfl, rfl⟩)
            go_roundw
            case rel => first | exact ⟨k + 1, by omega, by go_num, by rw [HS.out], by first | trivial | rfl⟩ | ((repeat apply Exists.intro); exact ⟨⟨k + 1, by omega, by go_num, by rw [HS.out], by first | trivial | rfl⟩, rfl⟩)
            case measure => simp [intOf]; omega
    · obtain rfl : k = 8 := by omega
      rw [HAx.out]
      go_wp2
      go_ret
      exact ⟨rfl, HB2.out⟩

/-- The document's Show, of any pieces. -/
theorem refShow_any (p : List Int) (h8 : p.length = 8) (x : ByteArray) (hx : (⟨(showS p).toArray⟩ : ByteArray) = x) (w : World) : Calls Tryz.prog 76 #[.agg (arr p)] w fun e w' => e = .returned (.string x) ∧ Below w.heap.size w w' := by
  cases hm : mayP p
  · have HX := Lib.hid (show (⟨#[]⟩ : ByteArray) = x by rw [← hx]; unfold showS; rw [hm]; rfl)
    have HP := Lib.hid hm
    have H8 := Lib.hid h8
    have HB0 := Lib.hid (show Below w.heap.size w (w.alloc (.cells (arr p) 22)) from (Below.refl _ w).alloc (Nat.le_refl _) _)
    have HR0 := Lib.hid (RowAt.new w p)
    clear hx hm h8
    go_enter Tryz.func76, Tryz.ntmps76
    go_wp2_with ((with_reducible refine wp_load22 (o := ⟨some 8, .load 22 (.tmp 1), _, _, _, _⟩) ?_ (.tmp 1) ?_ w.heap.size ?_ p H8.out HR0.out ?_); (· rfl); (· rfl); (· rfl))
    refine (refMay_any p H8.out false HP.out _).mono ?_
    rintro e u1 ⟨rfl, hB1⟩
    go_wp2
    go_ret
    exact ⟨congrArg (fun x => Ending.returned (Value.string x)) HX.out, Ascii.below2 HB0.out hB1⟩
  · exact refShow_in p h8 hm x hx w


theorem parts_split (a r : List UInt8) (h : (58 : UInt8) ∉ a) : ∃ x T, parts (a ++ r) = (a ++ x) :: T := by
  rcases first_colon r with hn | ⟨b, r', rfl, hn⟩
  · exact ⟨r, [], parts_none _ (by simp [h, hn])⟩
  · refine ⟨b, parts r', ?_⟩
    rw [← List.append_assoc, parts_cons _ _ (by simp [h, hn])]

theorem okC_no (t : List UInt8) (h : t.all okC = true) : (58 : UInt8) ∉ t := by
  intro hm
  have := List.all_eq_true.1 h 58 hm
  rw [okC_colon] at this
  cases this

/-- All parts behind the first bytes but the last one are told; the last one is open. -/
def Told (l : List UInt8) (k : Nat) (C : List (List UInt8)) (t : List UInt8) : Prop := parts l = C ++ parts (t ++ l.drop k) ∧ C.all okP = true ∧ t.length ≤ 4 ∧ t.all okC = true

theorem told_zero (l : List UInt8) : Told l 0 [] [] := ⟨by simp, rfl, by simp, rfl⟩

theorem all_snoc (C : List (List UInt8)) (t : List UInt8) (h : C.all okP = true) (ht : t.length ≤ 4) (hc : t.all okC = true) (hn : t ≠ []) : (C ++ [t]).all okP = true := by
  rw [List.all_append, h]
  have : 1 ≤ t.length := by cases t with
    | nil => exact absurd rfl hn
    | cons c r => simp
  simp [(okP_iff t).2 ⟨this, ht, hc⟩]

theorem told_colon {l : List UInt8} {k : Nat} {C : List (List UInt8)} {t : List UInt8} (h : Told l k C t) (hk : k < l.length) (hc : l[k] = 58) (hn : t ≠ []) : Told l (k + 1) (C ++ [t]) [] := by
  obtain ⟨h1, h2, h3, h4⟩ := h
  refine ⟨?_, all_snoc C t h2 h3 h4 hn, by simp, rfl⟩
  rw [h1, List.drop_eq_getElem_cons hk, hc, parts_cons _ _ (okC_no t h4)]
  simp

theorem told_end {l : List UInt8} {k : Nat} {C : List (List UInt8)} {t : List UInt8} (h : Told l k C t) (hk : l.length ≤ k) (hn : t ≠ []) : parts l = C ++ [t] ∧ (parts l).all okP = true := by
  obtain ⟨h1, h2, h3, h4⟩ := h
  rw [List.drop_eq_nil_of_le hk, List.append_nil, parts_none _ (okC_no t h4)] at h1
  exact ⟨h1, by rw [h1]; exact all_snoc C t h2 h3 h4 hn⟩

theorem told_empty {l : List UInt8} {k : Nat} {C : List (List UInt8)} (h : Told l k C []) (hk : l.length ≤ k ∨ ∃ h : k < l.length, l[k] = 58) : (parts l).all okP = false := by
  obtain ⟨h1, h2, h3, h4⟩ := h
  have : ∃ T, parts ([] ++ l.drop k) = [] :: T := by
    rcases hk with hk | ⟨hk, hc⟩
    · rw [List.drop_eq_nil_of_le hk]; exact ⟨[], rfl⟩
    · rw [List.drop_eq_getElem_cons hk, hc]; exact ⟨parts (l.drop (k + 1)), by simp [parts]⟩
  obtain ⟨T, hT⟩ := this
  rw [h1, hT, List.all_append]
  simp [okP]

theorem told_next {l : List UInt8} {k : Nat} {C : List (List UInt8)} {t : List UInt8} (h : Told l k C t) (hk : k < l.length) (hc : okC l[k] = true) (ht : t.length < 4) : Told l (k + 1) C (t ++ [l[k]]) := by
  obtain ⟨h1, h2, h3, h4⟩ := h
  refine ⟨?_, h2, by simp; omega, by rw [List.all_append, h4]; simp [hc]⟩
  rw [h1, List.drop_eq_getElem_cons hk]
  simp

theorem told_bad {l : List UInt8} {k : Nat} {C : List (List UInt8)} {t : List UInt8} (h : Told l k C t) (hk : k < l.length) (hc : l[k] ≠ 58) (hb : okC l[k] = false ∨ 4 ≤ t.length) : (parts l).all okP = false := by
  obtain ⟨h1, h2, h3, h4⟩ := h
  obtain ⟨x, T, hx⟩ := parts_split (t ++ [l[k]]) (l.drop (k + 1)) (by simp [okC_no t h4]; exact fun e => hc e.symm)
  have e : t ++ l.drop k = (t ++ [l[k]]) ++ l.drop (k + 1) := by rw [List.drop_eq_getElem_cons hk]; simp
  rw [h1, e, hx, List.all_append]
  have : okP (t ++ [l[k]] ++ x) = false := by
    cases ho : okP (t ++ [l[k]] ++ x)
    · rfl
    · obtain ⟨_, o2, o3⟩ := (okP_iff _).1 ho
      rcases hb with hb | hb
      · rw [List.all_append, List.all_append] at o3
        simp [hb] at o3
      · simp at o2; omega
  rw [List.all_cons, this]
  simp

/-- Where the pass stands: still within, or behind the last byte. -/
def Pass (l : List UInt8) (k : Nat) (C : List (List UInt8)) (t : List UInt8) : Prop := (k ≤ l.length ∧ Told l k C t) ∨ (k = l.length + 1 ∧ t = [] ∧ parts l = C ∧ (parts l).all okP = true)

/-- As the document's pieces has it. -/
def valR (l : List UInt8) : List Nat := if okL l then valL l else []

theorem okL_parts (l : List UInt8) (h : l ≠ []) : okL l = (parts l).all okP ∧ valL l = (parts l).map valN := by
  have hi : l.isEmpty = false := by cases l <;> simp_all
  unfold okL valL
  rw [hi]
  exact ⟨rfl, rfl⟩

theorem parts_len_le {l : List UInt8} {k : Nat} {C : List (List UInt8)} {t : List UInt8} (h : Told l k C t) : C.length ≤ l.length := by
  have h1 := congrArg List.length h.1
  rw [List.length_append] at h1
  have := parts_le l
  have : 1 ≤ (parts (t ++ l.drop k)).length := List.length_pos_iff.2 (parts_ne _)
  omega



/-- The slice's numbers lie elsewhere. -/
def Cells (B : Nat) (W : World) (A : Option Addr) (l : List Nat) : Prop := ∀ j (h : j < l.length), ∃ g, A = some ⟨g, 0, none⟩ ∧ B ≤ g ∧ g < W.heap.size ∧ W.cell? ⟨g, j, none⟩ = some (.int .i64 (l[j] : Int))

theorem Cells.later {B : Nat} {W U : World} {A : Option Addr} {l : List Nat} (h : Cells B W A l) (hB : Below W.heap.size W U) : Cells B U A l := fun j hj => by
  obtain ⟨g, h1, h2, h3, h4⟩ := h j hj
  exact ⟨g, h1, h2, Nat.lt_of_lt_of_le h3 hB.size, (hB.cell (p := ⟨g, j, none⟩) h3).trans h4⟩

theorem Cells.set {B : Nat} {W : World} {A : Option Addr} {l : List Nat} (h : Cells B W A l) (b i : Nat) (v : Value) (hb : b < B) : Cells B (W.setCell ⟨b, i, none⟩ v) A l := fun j hj => by
  obtain ⟨g, h1, h2, h3, h4⟩ := h j hj
  refine ⟨g, h1, h2, by simpa [World.setCell] using h3, ?_⟩
  rw [← h4]
  have := Below.heap_setCell W ⟨b, i, none⟩ v g (show g ≠ b by omega)
  unfold World.cell?
  simp only [this]

theorem cells_nil (B : Nat) (W : World) (A : Option Addr) : Cells B W A [] := fun j hj => by cases hj

theorem cells_owned {W : World} {base : Nat} {v : Value} {l : List Nat} (h : W.ownsRow base 3 1 v l.length (l.map iv)) : ∃ A c, v = .slice A l.length c ∧ Cells base W A l := by
  rcases h.2 with ⟨h1, h2⟩ | ⟨g, cap, cur, rfl, hb, hg, hn, hc, hs, ht⟩
  · obtain rfl : l = [] := by simpa using h2
    exact ⟨none, 0, h1, cells_nil _ _ _⟩
  · refine ⟨_, cap, rfl, fun j hj => ⟨g, rfl, hb, (Array.getElem?_eq_some_iff.1 hg).1, ?_⟩⟩
    rw [h.cellAt j (by omega)]
    simp [iv, hj]

def RefPost (w : World) (l : List Nat) (b : Bool) (e : Ending) (W' : World) : Prop := ∃ A c, e = .returned (.tuple #[.slice A l.length c, .bool b]) ∧ Cells w.heap.size W' A l ∧ Below w.heap.size w W'

/-- What a round knows of the numbers. -/
def Round (l : List UInt8) (k g x : Nat) (L : List Nat) : Prop := ∃ C t, L = C.map valN ∧ x = valN t ∧ g = t.length ∧ Pass l k C t

theorem round_zero (l : List UInt8) : Round l 0 0 0 [] := ⟨[], [], rfl, rfl, rfl, .inl ⟨Nat.zero_le _, told_zero l⟩⟩

theorem round_le {l : List UInt8} {k g x : Nat} {L : List Nat} (h : Round l k g x L) : k ≤ l.length + 1 ∧ g ≤ 4 ∧ x < 65536 ∧ L.length ≤ l.length + 1 := by
  obtain ⟨C, t, rfl, rfl, rfl, hp⟩ := h
  have hv := valN_lt t
  rcases hp with ⟨hk, hT⟩ | ⟨rfl, rfl, rfl, _⟩
  · have h4 : 16 ^ t.length ≤ 16 ^ 4 := Nat.pow_le_pow_right (by omega) hT.2.2.1
    have := parts_len_le hT
    refine ⟨by omega, hT.2.2.1, by omega, by rw [List.length_map]; omega⟩
  · have := parts_le l
    exact ⟨by omega, by simp, by rw [valN_nil]; omega, by rw [List.length_map]; omega⟩

theorem round_end {l : List UInt8} {k g x : Nat} {L : List Nat} (h : Round l k g x L) (hk : ¬ k ≤ l.length) : (parts l).all okP = true ∧ (parts l).map valN = L := by
  obtain ⟨C, t, rfl, rfl, rfl, hp⟩ := h
  rcases hp with ⟨hk', _⟩ | ⟨_, _, rfl, h⟩
  · exact absurd hk' hk
  · exact ⟨h, rfl⟩

theorem round_in {l : List UInt8} {k g x : Nat} {L : List Nat} (h : Round l k g x L) (hk : k ≤ l.length) : ∃ C t, L = C.map valN ∧ x = valN t ∧ g = t.length ∧ Told l k C t := by
  obtain ⟨C, t, h1, h2, h3, hp⟩ := h
  rcases hp with ⟨_, hT⟩ | ⟨h, _⟩
  · exact ⟨C, t, h1, h2, h3, hT⟩
  · omega

/-- At a colon, or at the end. -/
theorem round_cut {l : List UInt8} {k g x : Nat} {L : List Nat} (h : Round l k g x L) (hk : k = l.length ∨ ∃ h : k < l.length, l[k] = 58) : (g = 0 → (parts l).all okP = false) ∧ (g ≠ 0 → Round l (k + 1) 0 0 (L ++ [x])) := by
  obtain ⟨C, t, rfl, rfl, rfl, hT⟩ := round_in h (by rcases hk with rfl | ⟨h, _⟩ <;> omega)
  constructor
  · intro h0
    have := List.length_eq_zero_iff.1 h0
    subst this
    exact told_empty hT (by rcases hk with rfl | h; exact .inl (Nat.le_refl _); exact .inr h)
  · intro h0
    have hn : t ≠ [] := fun e => h0 (by rw [e]; rfl)
    refine ⟨C ++ [t], [], by simp, rfl, rfl, ?_⟩
    rcases hk with rfl | ⟨hk, hc⟩
    · have := told_end hT (Nat.le_refl _) hn
      exact .inr ⟨rfl, rfl, this.1, this.2⟩
    · exact .inl ⟨hk, told_colon hT hk hc hn⟩

/-- At any other byte. -/
theorem round_byte {l : List UInt8} {k g x : Nat} {L : List Nat} (h : Round l k g x L) (hk : k < l.length) (hc : l[k] ≠ 58) : ((hexV l[k] < 0 ∨ 4 ≤ g) → (parts l).all okP = false) ∧ (0 ≤ hexV l[k] → g < 4 → Round l (k + 1) (g + 1) (16 * x + (hexV l[k]).toNat) L) := by
  obtain ⟨C, t, rfl, rfl, rfl, hT⟩ := round_in h (by omega)
  constructor
  · intro hb
    refine told_bad hT hk hc ?_
    rcases hb with h | h
    · exact .inl (decide_eq_false (by omega))
    · exact .inr h
  · intro h1 h2
    refine ⟨C, t ++ [l[k]], rfl, by rw [valN_snoc]; omega, by simp, .inl ⟨hk, told_next hT hk (decide_eq_true h1) h2⟩⟩



/-! ### What it answers -/
theorem okR (l : List UInt8) (h : okL l = true) : valR l = valL l := by unfold valR; rw [h]; rfl

theorem par_none (l : List UInt8) (h : Lib.index l [58, 58] = -1) : parB l = (okL l && decide ((valR l).length = 8)) ∧ (okL l = true → (valR l).length = 8 → parI l = ints (valR l)) := by
  rcases cut_index l with ⟨_, hc⟩ | ⟨k, hk, _⟩
  · rcases cutL_spec l with ⟨h', _⟩ | ⟨_, h1, h2⟩
    · rw [hc] at h'; cases h'
    · have hB : parB l = (okL l && decide ((valR l).length = 8)) := by
        unfold parB
        rw [h1, h2, hc]
        cases ho : okL l
        · rfl
        · rw [okR l ho]; simp [fitB, valL, okL]
      refine ⟨hB, fun ho h8 => ?_⟩
      unfold parI
      rw [hB, ho, decide_eq_true h8]
      show ints (fill (valL (cutL l).1) (valL (cutL l).2.1)) = _
      rw [h1, h2]
      rw [okR l ho] at h8 ⊢
      rw [show valL [] = [] from rfl]
      simp [fill, h8]
  · omega

theorem par_hit (l : List UInt8) (k : Nat) (h : Lib.index l [58, 58] = k) : k + 2 ≤ l.length ∧ parB l = (okL (l.take k) && (okL (l.drop (k + 2)) && decide ((valR (l.take k)).length + (valR (l.drop (k + 2))).length < 8))) ∧
    (okL (l.take k) = true → okL (l.drop (k + 2)) = true → (valR (l.take k)).length + (valR (l.drop (k + 2))).length < 8 → parI l = ints (fill (valR (l.take k)) (valR (l.drop (k + 2))))) := by
  rcases cut_index l with ⟨h', _⟩ | ⟨j, hj, h3, h1, h2⟩
  · omega
  · obtain rfl : j = k := by omega
    have hlen : j + 2 ≤ l.length := by
      rcases cutL_spec l with ⟨_, hs⟩ | ⟨hs, _⟩
      · have := congrArg List.length hs
        rw [h1, h2] at this
        simp at this
        omega
      · rw [h3] at hs; cases hs
    have hB : parB l = (okL (l.take j) && (okL (l.drop (j + 2)) && decide ((valR (l.take j)).length + (valR (l.drop (j + 2))).length < 8))) := by
      unfold parB
      rw [h1, h2, h3]
      cases ha : okL (l.take j)
      · rfl
      · cases hb : okL (l.drop (j + 2))
        · rfl
        · rw [okR _ ha, okR _ hb]; simp [fitB]
    refine ⟨hlen, hB, fun ha hb h8 => ?_⟩
    unfold parI
    rw [hB, ha, hb, decide_eq_true h8]
    show ints (fill (valL (cutL l).1) (valL (cutL l).2.1)) = _
    rw [h1, h2, okR _ ha, okR _ hb]
/-! ### The array, cell by cell -/

def fillA (a : List Nat) (k : Nat) : List Int := ints (a.take k) ++ List.replicate (8 - k) 0

def fillB (a b : List Nat) (k : Nat) : List Int := ints a ++ (List.replicate (8 - a.length - b.length) 0 ++ (ints (b.take k) ++ List.replicate (b.length - k) 0))

theorem fillA_zero (a : List Nat) : fillA a 0 = zero8 := rfl

theorem fillA_len (a : List Nat) (k : Nat) (h : k ≤ a.length) (h8 : k ≤ 8) : (fillA a k).length = 8 := by simp [fillA, ints]; omega

theorem fillA_set (a : List Nat) (k : Nat) (h : k < a.length) (h8 : k < 8) : (fillA a k).set k (a[k] : Int) = fillA a (k + 1) := by
  have e : (ints (a.take k)).length = k := by simp [ints]; omega
  unfold fillA
  rw [List.set_append_right _ _ (by omega), e, Nat.sub_self, List.take_succ_eq_append_getElem h, ints_append, show 8 - k = (8 - (k + 1)) + 1 by omega, List.replicate_succ, List.set_cons_zero]
  simp [ints]

theorem fillB_zero (a b : List Nat) (h : a.length + b.length ≤ 8) : fillB a b 0 = fillA a a.length := by
  unfold fillB fillA
  rw [List.take_of_length_le (Nat.le_refl _), List.take_zero, show 8 - a.length = (8 - a.length - b.length) + b.length by omega, ← List.replicate_append_replicate]
  simp [ints]

theorem fillB_len (a b : List Nat) (k : Nat) (h : a.length + b.length ≤ 8) (hk : k ≤ b.length) : (fillB a b k).length = 8 := by simp [fillB, ints]; omega

theorem fillB_set (a b : List Nat) (k q : Nat) (h : a.length + b.length ≤ 8) (hk : k < b.length) (hq : q + b.length = 8) : (fillB a b k).set (q + k) (b[k] : Int) = fillB a b (k + 1) := by
  have e : (ints (b.take k)).length = k := by simp [ints]; omega
  have ea : (ints a).length = a.length := ints_len a
  unfold fillB
  rw [List.set_append_right _ _ (by omega), ea, List.set_append_right _ _ (by simp; omega), List.length_replicate, List.set_append_right _ _ (by omega), e, show q + k - a.length - (8 - a.length - b.length) - k = 0 by omega, List.take_succ_eq_append_getElem hk, ints_append, show b.length - k = (b.length - (k + 1)) + 1 by omega, List.replicate_succ, List.set_cons_zero]
  simp [ints]

theorem fillB_all (a b : List Nat) : fillB a b b.length = ints (fill a b) := by
  unfold fillB fill
  rw [List.take_of_length_le (Nat.le_refl _), ints_append, ints_append]
  simp [ints]

theorem alloc2_size (w : World) (X Y : Obj) : ((w.alloc X).alloc Y).heap.size = w.heap.size + 2 := by simp

/-- The two arrays that Parse lays, and what a round leaves alone. -/
structure Lies (w : World) (P : List Int) (W : World) : Prop where
  p : RowAt W (w.heap.size + 1) P
  r : RowAt W w.heap.size zero8
  b : Below w.heap.size w W
  s : w.heap.size + 2 ≤ W.heap.size

theorem Lies.new (w : World) : Lies w zero8 ((w.alloc (.cells (arr zero8) 22)).alloc (.cells (arr zero8) 22)) := by
  refine ⟨?_, (RowAt.new w zero8).past _, ((Below.refl _ w).alloc (Nat.le_refl _) _).alloc (by simp) _, by simp⟩
  have := RowAt.new (w.alloc (.cells (arr zero8) 22)) zero8
  simpa using this

theorem Lies.later {w W U : World} {P : List Int} (h : Lies w P W) (hB : Below W.heap.size W U) : Lies w P U :=
  ⟨h.p.later hB, h.r.later hB, h.b.trans (hB.mono (by have := h.s; omega)), Nat.le_trans h.s hB.size⟩

theorem Lies.set {w W : World} {P : List Int} (h : Lies w P W) (j : Nat) (z : Int) : Lies w (P.set j z) (W.setCell ⟨w.heap.size + 1, j, none⟩ (.int .i64 z)) :=
  ⟨h.p.set j z, h.r.setOther (by omega) _ _, h.b.setCell (p := ⟨w.heap.size + 1, j, none⟩) (by show w.heap.size ≤ w.heap.size + 1; omega) _, by have := h.s; simpa [World.setCell] using this⟩

theorem Lies.done {w W : World} {P : List Int} (h : Lies w P W) (F : List Int) : RowAt (W.setRow w.heap.size (arr F)) w.heap.size F ∧ Below w.heap.size w (W.setRow w.heap.size (arr F)) := ⟨h.r.row F, below_setRow h.b (Nat.le_refl _) _⟩

theorem valR_len (l : List UInt8) : (valR l).length ≤ l.length + 1 := by
  unfold valR valL
  have := parts_le l
  split
  · split
    · simp
    · rw [List.length_map]; exact this
  · simp

theorem Cells.up {B B' : Nat} {W : World} {A : Option Addr} {l : List Nat} (h : Cells B W A l) (hB : B' ≤ B) : Cells B' W A l := fun j hj => by
  obtain ⟨g, h1, h2, h3⟩ := h j hj
  exact ⟨g, h1, Nat.le_trans hB h2, h3⟩

end Go.Proofs.YtlkikfdbjpjpaaaGreatDoor.Six
