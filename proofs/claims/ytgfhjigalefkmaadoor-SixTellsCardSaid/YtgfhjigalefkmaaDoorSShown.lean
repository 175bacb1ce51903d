/-
  Eight pieces: whether they may be, the longest row of noughts, the text; what is shown is parsed. Nothing of the program.
-/
import Derived.Test.YtgfhjigalefkmaaDoorSFacts
namespace Go.Proofs.YtgfhjigalefkmaaDoor.Six
set_option linter.unusedSimpArgs false

/-! ### The longest row of noughts -/
def zr : List Int → Nat
  | [] => 0
  | x :: r => if x = 0 then zr r + 1 else 0
def better (s : Nat × Nat) (i n : Nat) : Nat × Nat := if s.2 < n then (i, n) else s
/-- The longest row that begins at one of the first i places, and has two at least. -/
def st (p : List Int) : Nat → Nat × Nat
  | 0 => (0, 1)
  | i + 1 => better (st p i) i (zr (p.drop i))
def runP (p : List Int) : Nat × Nat := if (st p 8).2 = 1 then (0, 0) else st p 8

def zrB : List Bool → Nat
  | [] => 0
  | x :: r => if x then zrB r + 1 else 0
def stB (p : List Bool) : Nat → Nat × Nat
  | 0 => (0, 1)
  | i + 1 => better (stB p i) i (zrB (p.drop i))
def runB (p : List Bool) : Nat × Nat := if (stB p 8).2 = 1 then (0, 0) else stB p 8
def noughts (p : List Int) : List Bool := p.map fun z => decide (z = 0)
theorem zr_B (p : List Int) : zr p = zrB (noughts p) := by
  induction p with
  | nil => rfl
  | cons x r ih =>
    show (if x = 0 then zr r + 1 else 0) = if decide (x = 0) = true then zrB (noughts r) + 1 else 0
    rw [ih]
    simp
theorem st_B (p : List Int) (i : Nat) : st p i = stB (noughts p) i := by
  induction i with
  | zero => rfl
  | succ i ih =>
    unfold st stB
    rw [ih, zr_B]
    simp [noughts, List.map_drop]
theorem run_B (p : List Int) : runP p = runB (noughts p) := by unfold runP runB; rw [st_B]
/-- All rows of eight. -/
theorem all_rows {q : List Bool → Prop} (h : ∀ a b c d e f g i : Bool, q [a, b, c, d, e, f, g, i]) (p : List Bool) (h8 : p.length = 8) : q p := by
  match p, h8 with
  | [a, b, c, d, e, f, g, i], _ => exact h a b c d e f g i
theorem runB_fits (p : List Bool) (h8 : p.length = 8) : (runB p).1 + (runB p).2 ≤ 8 ∧ (runB p).2 ≠ 1 ∧ ((runB p).2 = 0 → (runB p).1 = 0) ∧ ((p.drop (runB p).1).take (runB p).2).all id = true :=
  all_rows (q := fun p => (runB p).1 + (runB p).2 ≤ 8 ∧ (runB p).2 ≠ 1 ∧ ((runB p).2 = 0 → (runB p).1 = 0) ∧ ((p.drop (runB p).1).take (runB p).2).all id = true) (by decide +kernel) p h8
theorem runB_most (p : List Bool) (h8 : p.length = 8) (i : Fin 8) (k : Fin 9) (hk : 2 ≤ k.val) (hik : i.val + k.val ≤ 8) (ha : ((p.drop i.val).take k.val).all id = true) : k.val < (runB p).2 ∨ (k.val = (runB p).2 ∧ (runB p).1 ≤ i.val) :=
  all_rows (q := fun p => ∀ (i : Fin 8) (k : Fin 9), 2 ≤ k.val → i.val + k.val ≤ 8 → ((p.drop i.val).take k.val).all id = true → k.val < (runB p).2 ∨ (k.val = (runB p).2 ∧ (runB p).1 ≤ i.val)) (by decide +kernel) p h8 i k hk hik ha
/-- Are the n pieces from at on noughts? -/
def Row0 (p : List Int) (i k : Nat) : Prop := ∀ j, i ≤ j → j < i + k → p[j]? = some 0
theorem row0_B (p : List Int) (i k : Nat) (h : i + k ≤ p.length) : ((noughts p).drop i |>.take k).all id = true ↔ Row0 p i k := by
  rw [List.all_eq_true]
  constructor
  · intro ha j h1 h2
    have hj : j < p.length := by omega
    have hm : (noughts p)[j]'(by simp [noughts]; exact hj) ∈ ((noughts p).drop i).take k := by
      rw [List.mem_iff_getElem]
      refine ⟨j - i, by simp [noughts]; omega, ?_⟩
      simp only [List.getElem_take, List.getElem_drop]
      congr 1
      omega
    have := ha _ hm
    simp [noughts] at this
    rw [List.getElem?_eq_getElem hj, this]
  · intro hr x hx
    rw [List.mem_iff_getElem] at hx
    obtain ⟨j, hj, rfl⟩ := hx
    have hj' : j < k ∧ i + j < p.length := by simp [noughts] at hj; omega
    have := hr (i + j) (by omega) (by omega)
    rw [List.getElem?_eq_getElem hj'.2] at this
    simp only [List.getElem_take, List.getElem_drop]
    simp [noughts]
    exact Option.some.inj this
theorem run_fits (p : List Int) (h8 : p.length = 8) : (runP p).1 + (runP p).2 ≤ 8 ∧ (runP p).2 ≠ 1 ∧ ((runP p).2 = 0 → (runP p).1 = 0) ∧ Row0 p (runP p).1 (runP p).2 := by
  have h := runB_fits (noughts p) (by simp [noughts, h8])
  rw [← run_B] at h
  exact ⟨h.1, h.2.1, h.2.2.1, (row0_B p _ _ (by omega)).1 h.2.2.2⟩
theorem run_most (p : List Int) (h8 : p.length = 8) (i k : Nat) (hk : 2 ≤ k) (hik : i + k ≤ 8) (ha : Row0 p i k) : k < (runP p).2 ∨ (k = (runP p).2 ∧ (runP p).1 ≤ i) := by
  have h := runB_most (noughts p) (by simp [noughts, h8]) ⟨i, by omega⟩ ⟨k, by omega⟩ hk hik ((row0_B p i k (by omega)).2 ha)
  rw [← run_B] at h
  exact h

/-! ### Shown -/
def mayP (p : List Int) : Bool := p.all fun z => decide (0 ≤ z) && decide (z ≤ 65535)
def texts (p : List Int) : List (List UInt8) := p.map fun z => hexN z.toNat
def gapped (at_ n : Nat) (ts : List (List UInt8)) : List UInt8 := joinC (ts.take at_) ++ 58 :: 58 :: joinC (ts.drop (at_ + n))
def showIn (p : List Int) : List UInt8 := if (runP p).2 = 0 then joinC (texts p) else gapped (runP p).1 (runP p).2 (texts p)
def showS (p : List Int) : List UInt8 := if mayP p then showIn p else []

theorem may_iff (p : List Int) : mayP p = true ↔ ∀ z ∈ p, 0 ≤ z ∧ z ≤ 65535 := by
  unfold mayP
  rw [List.all_eq_true]
  simp
theorem texts_okP (p : List Int) (h : mayP p = true) : (texts p).all okP = true := by
  rw [List.all_eq_true]
  intro t ht
  obtain ⟨z, hz, rfl⟩ := List.mem_map.1 ht
  have := (may_iff p).1 h z hz
  exact hexN_okP _ (by omega)
theorem texts_val (p : List Int) (h : mayP p = true) : ints ((texts p).map valN) = p := by
  unfold ints texts
  rw [List.map_map, List.map_map]
  conv => rhs; rw [← List.map_id p]
  refine List.map_congr_left fun z hz => ?_
  have := (may_iff p).1 h z hz
  show Int.ofNat (valN (hexN z.toNat)) = z
  rw [hexN_val]
  simp
  omega
theorem all_take {α : Type} (f : α → Bool) (l : List α) (k : Nat) (h : l.all f = true) : (l.take k).all f = true := by
  rw [List.all_eq_true] at h ⊢
  exact fun x hx => h x (List.mem_of_mem_take hx)
theorem all_drop {α : Type} (f : α → Bool) (l : List α) (k : Nat) (h : l.all f = true) : (l.drop k).all f = true := by
  rw [List.all_eq_true] at h ⊢
  exact fun x hx => h x (List.mem_of_mem_drop hx)
/-- A row of noughts is filled in again. -/
theorem fill_row (v : List Nat) (h8 : v.length = 8) (i k : Nat) (hik : i + k ≤ 8) (h : ∀ j, i ≤ j → j < i + k → v[j]? = some 0) : fill (v.take i) (v.drop (i + k)) = v := by
  unfold fill
  apply List.ext_getElem?
  intro j
  have e1 : (v.take i).length = i := by simp; omega
  have e2 : (v.drop (i + k)).length = 8 - (i + k) := by simp [h8]
  rw [e1, e2, show 8 - i - (8 - (i + k)) = k by omega]
  by_cases h1 : j < i
  · rw [List.getElem?_append_left (by omega), List.getElem?_take_of_lt h1]
  · rw [List.getElem?_append_right (by omega), e1]
    by_cases h2 : j < i + k
    · rw [List.getElem?_append_left (by simp; omega), h j (by omega) h2, List.getElem?_replicate, if_pos (by omega)]
    · rw [List.getElem?_append_right (by simp; omega), List.length_replicate, List.getElem?_drop]
      congr 1
      omega
/-- Texts that tell v, with a row of noughts left out. -/
theorem par_gapped (ts : List (List UInt8)) (hok : ts.all okP = true) (h8 : ts.length = 8) (i k : Nat) (hk : 1 ≤ k) (hik : i + k ≤ 8) (h : ∀ j, i ≤ j → j < i + k → (ts.map valN)[j]? = some 0) :
    parB (gapped i k ts) = true ∧ parI (gapped i k ts) = ints (ts.map valN) := by
  have hg := par_gap (ts.take i) (ts.drop (i + k)) (all_take _ _ _ hok) (all_drop _ _ _ hok)
  have hl : (ts.take i).length + (ts.drop (i + k)).length < 8 := by simp; omega
  refine ⟨by unfold gapped; rw [hg.1, decide_eq_true hl], ?_⟩
  unfold gapped
  rw [hg.2 hl, List.map_take, List.map_drop, fill_row _ (by simp [h8]) i k hik h]
theorem row_vals (p : List Int) (i k : Nat) (h : Row0 p i k) : ∀ j, i ≤ j → j < i + k → ((texts p).map valN)[j]? = some 0 := by
  intro j h1 h2
  have e := h j h1 h2
  unfold texts
  rw [List.map_map, List.getElem?_map, e]
  simp [Function.comp_def, hexN_val]
/-- What is shown is parsed. -/
theorem par_show (p : List Int) (h8 : p.length = 8) (hm : mayP p = true) : parB (showS p) = true ∧ parI (showS p) = p := by
  have hok := texts_okP p hm
  have hv := texts_val p hm
  have hl : (texts p).length = 8 := by simp [texts, h8]
  obtain ⟨r1, r2, r3, r4⟩ := run_fits p h8
  unfold showS
  rw [if_pos hm]
  unfold showIn
  split
  · have := par_eight _ hok hl
    rw [hv] at this
    exact this
  · have := par_gapped (texts p) hok hl (runP p).1 (runP p).2 (by omega) r1 (row_vals p _ _ r4)
    rw [hv] at this
    exact this
theorem show_inj (p q : List Int) (hp : p.length = 8) (hq : q.length = 8) (mp : mayP p = true) (mq : mayP q = true) (h : showS p = showS q) : p = q := by
  rw [← (par_show p hp mp).2, h, (par_show q hq mq).2]
theorem par_nil : parB [] = false := by decide +kernel
theorem show_empty (p : List Int) (h8 : p.length = 8) : showS p = [] ↔ mayP p = false := by
  constructor
  · intro h
    cases hm : mayP p
    · rfl
    · have := (par_show p h8 hm).1
      rw [h, par_nil] at this
      cases this
  · intro h
    unfold showS
    rw [h]
    rfl

/-! ### How long -/
theorem lens_append (a b : List (List UInt8)) : lens (a ++ b) = lens a + lens b := by simp [lens]
theorem lens_split (ts : List (List UInt8)) (i k : Nat) : lens ts = lens (ts.take i) + (lens ((ts.drop i).take k) + lens (ts.drop (i + k))) := by
  have e2 : ts.drop i = (ts.drop i).take k ++ ts.drop (i + k) := by rw [← List.drop_drop, List.take_append_drop]
  have e1 : lens ts = lens (ts.take i) + lens (ts.drop i) := by rw [← lens_append, List.take_append_drop]
  have e3 := congrArg lens e2
  rw [lens_append] at e3
  omega
theorem lens_le (ts : List (List UInt8)) (m : Nat) (h : ∀ t ∈ ts, t.length ≤ m) : lens ts ≤ m * ts.length := by
  induction ts with
  | nil => simp [lens]
  | cons x r ih =>
    have h1 := h x (by simp)
    have h2 := ih fun t ht => h t (List.mem_cons_of_mem _ ht)
    simp only [lens, List.map_cons, List.sum_cons, List.length_cons, Nat.mul_add, Nat.mul_one] at h2 ⊢
    omega
theorem lens_one (ts : List (List UInt8)) (h : ∀ t ∈ ts, t.length = 1) : lens ts = ts.length := by
  induction ts with
  | nil => rfl
  | cons x r ih =>
    have h1 := h x (by simp)
    have h2 := ih fun t ht => h t (List.mem_cons_of_mem _ ht)
    simp only [lens, List.map_cons, List.sum_cons, List.length_cons] at h2 ⊢
    omega
theorem gapped_len (ts : List (List UInt8)) (h8 : ts.length = 8) (i k : Nat) (hik : i + k ≤ 8) : (gapped i k ts).length = lens (ts.take i) + (i - 1) + 2 + (lens (ts.drop (i + k)) + (8 - (i + k) - 1)) := by
  unfold gapped
  simp only [List.length_append, List.length_cons, joinC_len, List.length_take, List.length_drop, h8]
  rw [show min i 8 = i by omega]
  omega
theorem hexN_zero : hexN 0 = [48] := by rw [hexN_lt (by omega)]; decide +kernel
theorem row_one (p : List Int) (i k : Nat) (hik : i + k ≤ p.length) (h : Row0 p i k) : lens (((texts p).drop i).take k) = k := by
  rw [lens_one]
  · simp [texts]; omega
  · intro t ht
    rw [List.mem_iff_getElem] at ht
    obtain ⟨j, hj, rfl⟩ := ht
    have hj' : j < k ∧ i + j < p.length := by simp [texts] at hj; omega
    have := h (i + j) (by omega) (by omega)
    rw [List.getElem?_eq_getElem hj'.2] at this
    simp only [List.getElem_take, List.getElem_drop]
    simp [texts, Option.some.inj this, hexN_zero]
theorem show_len39 (p : List Int) (h8 : p.length = 8) (hm : mayP p = true) : (showS p).length ≤ 39 := by
  have hl : (texts p).length = 8 := by simp [texts, h8]
  have h4 : ∀ t ∈ texts p, t.length ≤ 4 := fun t ht => ((okP_iff t).1 (List.all_eq_true.1 (texts_okP p hm) t ht)).2.1
  have hs := lens_le _ 4 h4
  rw [hl] at hs
  obtain ⟨r1, r2, r3, r4⟩ := run_fits p h8
  unfold showS
  rw [if_pos hm]
  unfold showIn
  split
  · rw [joinC_len, hl]; omega
  · rw [gapped_len _ hl _ _ r1]
    have := lens_split (texts p) (runP p).1 (runP p).2
    rw [row_one p _ _ (by omega) r4] at this
    omega
theorem lens_min (ts : List (List UInt8)) (h : ts.all okP = true) : lens (ts.map fun t => hexN (valN t)) ≤ lens ts := by
  induction ts with
  | nil => exact Nat.le_refl _
  | cons x r ih =>
    rw [List.all_cons, Bool.and_eq_true] at h
    have h1 := okP_min x h.1
    have h2 := ih h.2
    simp only [lens, List.map_cons, List.sum_cons] at h2 ⊢
    omega
theorem texts_ints (v : List Nat) : texts (ints v) = v.map hexN := by
  unfold texts ints
  rw [List.map_map]
  rfl
/-- How long what is shown is, by the lengths of the texts. -/
theorem show_lens (p : List Int) (h8 : p.length = 8) (hm : mayP p = true) : ((runP p).2 = 0 ∧ (showS p).length = lens (texts p) + 7) ∨
    (2 ≤ (runP p).2 ∧ (runP p).1 + (runP p).2 ≤ 8 ∧ (showS p).length + 2 * (runP p).2 = lens (texts p) + 8 + (if (runP p).1 = 0 then 1 else 0) + (if (runP p).1 + (runP p).2 = 8 then 1 else 0)) := by
  have hl : (texts p).length = 8 := by simp [texts, h8]
  obtain ⟨r1, r2, r3, r4⟩ := run_fits p h8
  unfold showS
  rw [if_pos hm]
  unfold showIn
  by_cases h : (runP p).2 = 0
  · refine .inl ⟨h, ?_⟩
    rw [if_pos h, joinC_len, hl]
  · refine .inr ⟨by omega, r1, ?_⟩
    rw [if_neg h, gapped_len _ hl _ _ r1]
    have := lens_split (texts p) (runP p).1 (runP p).2
    rw [row_one p _ _ (by omega) r4] at this
    split <;> split <;> omega
/-- What is parsed may be, and is shown by at most one byte more. -/
theorem par_may (l : List UInt8) (h : parB l = true) : (parI l).length = 8 ∧ mayP (parI l) = true ∧ (showS (parI l)).length ≤ l.length + 1 := by
  rcases par_some l h with ⟨ts, ht, h8, rfl, e⟩ | ⟨ts, us, ht, hu, hlt, rfl, e⟩
  · have hlen : (parI (joinC ts)).length = 8 := by rw [e]; simp [ints, h8]
    have hm : mayP (parI (joinC ts)) = true := by
      rw [e, may_iff]
      intro z hz
      obtain ⟨n, hn, rfl⟩ := List.mem_map.1 hz
      obtain ⟨t, htm, rfl⟩ := List.mem_map.1 hn
      have := okP_val t (List.all_eq_true.1 ht t htm)
      simp
      omega
    refine ⟨hlen, hm, ?_⟩
    have hx : lens (texts (parI (joinC ts))) ≤ lens ts := by
      rw [e, texts_ints, List.map_map]
      exact lens_min ts ht
    have hj : (joinC ts).length = lens ts + 7 := by rw [joinC_len, h8]
    rcases show_lens _ hlen hm with ⟨_, hs⟩ | ⟨h2, h3, hs⟩
    · omega
    · split at hs <;> split at hs <;> omega
  · have hz : 1 ≤ 8 - ts.length - us.length := by omega
    obtain ⟨k, hk⟩ : ∃ k, 8 - ts.length - us.length = k := ⟨_, rfl⟩
    have hf : fill (ts.map valN) (us.map valN) = ts.map valN ++ (List.replicate k 0 ++ us.map valN) := by
      unfold fill
      rw [List.length_map, List.length_map, hk]
    have hlen : (parI (joinC ts ++ 58 :: 58 :: joinC us)).length = 8 := by rw [e, hf]; simp [ints]; omega
    have hm : mayP (parI (joinC ts ++ 58 :: 58 :: joinC us)) = true := by
      rw [e, may_iff, hf]
      intro z hz
      obtain ⟨n, hn, rfl⟩ := List.mem_map.1 hz
      simp only [List.mem_append, List.mem_map, List.mem_replicate] at hn
      rcases hn with ⟨t, htm, rfl⟩ | ⟨_, rfl⟩ | ⟨t, htm, rfl⟩
      · have := okP_val t (List.all_eq_true.1 ht t htm)
        simp
        omega
      · simp
      · have := okP_val t (List.all_eq_true.1 hu t htm)
        simp
        omega
    refine ⟨hlen, hm, ?_⟩
    have hx : lens (texts (parI (joinC ts ++ 58 :: 58 :: joinC us))) ≤ lens ts + (k + lens us) := by
      rw [e, hf, texts_ints, List.map_append, List.map_append, List.map_map, List.map_map, lens_append, lens_append]
      have h1 := lens_min ts ht
      have h2 := lens_min us hu
      have h3 : lens ((List.replicate k 0).map hexN) = k := by
        rw [lens_one]
        · simp
        · intro t ht
          simp [hexN_zero] at ht
          rw [ht.2]
          rfl
      rw [h3]
      exact Nat.add_le_add h1 (Nat.add_le_add (Nat.le_refl _) h2)
    have hrow : Row0 (parI (joinC ts ++ 58 :: 58 :: joinC us)) ts.length k := by
      intro j h1 h2
      rw [e, hf]
      unfold ints
      rw [List.getElem?_map, List.getElem?_append_right (by simp; omega), List.getElem?_append_left (by simp; omega), List.getElem?_replicate, if_pos (by simp; omega)]
      rfl
    have hj : (joinC ts ++ 58 :: 58 :: joinC us).length = lens ts + (ts.length - 1) + 2 + (lens us + (us.length - 1)) := by
      simp only [List.length_append, List.length_cons, joinC_len]
      omega
    have hmost := fun h2 : 2 ≤ k => run_most _ hlen ts.length k h2 (by omega) hrow
    rcases show_lens _ hlen hm with ⟨h0, hs⟩ | ⟨h2, h3, hs⟩
    · by_cases hk2 : 2 ≤ k
      · have := hmost hk2
        omega
      · omega
    · by_cases hk2 : 2 ≤ k
      · rcases hmost hk2 with hm' | ⟨hm1, hm2⟩
        · split at hs <;> split at hs <;> omega
        · split at hs <;> split at hs <;> omega
      · split at hs <;> split at hs <;> omega
end Go.Proofs.YtgfhjigalefkmaaDoor.Six
