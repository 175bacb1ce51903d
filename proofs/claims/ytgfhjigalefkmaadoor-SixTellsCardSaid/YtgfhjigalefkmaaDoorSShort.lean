/-
  A row of texts written one behind the other, with two colons in place of some; four digits of a piece.
-/
import Derived.Test.YtgfhjigalefkmaaDoorSShown
namespace Go.Proofs.YtgfhjigalefkmaaDoor.Six
open Go.RowKit
set_option linter.unusedSimpArgs false
set_option linter.unusedVariables false
theorem joinC_snoc (ts : List (List UInt8)) (t : List UInt8) (h : ts ≠ []) : joinC (ts ++ [t]) = joinC ts ++ 58 :: t := by
  induction ts with
  | nil => exact absurd rfl h
  | cons x r ih =>
    cases r with
    | nil => rfl
    | cons y r =>
      show x ++ 58 :: joinC ((y :: r) ++ [t]) = (x ++ 58 :: joinC (y :: r)) ++ 58 :: t
      rw [ih (by simp), List.append_assoc, List.cons_append]
theorem joinC_last (ts : List (List UInt8)) (hT : Texts ts) (h : ts ≠ []) : ∃ r c, joinC ts = r ++ [c] ∧ c ≠ 58 := by
  induction ts with
  | nil => exact absurd rfl h
  | cons x r ih =>
    cases r with
    | nil =>
      obtain ⟨h1, h2⟩ := hT x (by simp)
      refine ⟨x.dropLast, x.getLast h2, (List.dropLast_concat_getLast h2).symm, fun e => h1 ?_⟩
      rw [← e]
      exact List.getLast_mem h2
    | cons y r =>
      obtain ⟨a, c, e, hc⟩ := ih (fun t ht => hT t (List.mem_cons_of_mem _ ht)) (by simp)
      exact ⟨x ++ 58 :: a, c, by show x ++ 58 :: joinC (y :: r) = _; rw [e]; simp, hc⟩
theorem Texts.take {ts : List (List UInt8)} (h : Texts ts) (k : Nat) : Texts (ts.take k) := fun t ht => h t (List.mem_of_mem_take ht)
theorem Texts.drop {ts : List (List UInt8)} (h : Texts ts) (k : Nat) : Texts (ts.drop k) := fun t ht => h t (List.mem_of_mem_drop ht)
/-- The first i, with two colons in place of those from place a on, n of them. -/
def shortTo (ts : List (List UInt8)) (a n i : Nat) : List UInt8 := if i ≤ a then joinC (ts.take i) else joinC (ts.take a) ++ 58 :: 58 :: joinC ((ts.take i).drop (a + n))
theorem short_zero (ts : List (List UInt8)) (a n : Nat) : shortTo ts a n 0 = [] := by simp [shortTo, joinC]
theorem short_at (ts : List (List UInt8)) (a n : Nat) (hn : 1 ≤ n) : shortTo ts a n (a + 1) = shortTo ts a n a ++ [58, 58] := by
  unfold shortTo
  rw [if_neg (by omega), if_pos (Nat.le_refl _), List.drop_eq_nil_of_le (by simp; omega)]
  rfl
theorem short_in (ts : List (List UInt8)) (a n i : Nat) (h1 : a < i) (h2 : i < a + n) : shortTo ts a n (i + 1) = shortTo ts a n i := by
  unfold shortTo
  rw [if_neg (by omega), if_neg (by omega), List.drop_eq_nil_of_le (by simp; omega), List.drop_eq_nil_of_le (by simp; omega)]
theorem take_snocT (ts : List (List UInt8)) (i : Nat) (h : i < ts.length) : ts.take (i + 1) = ts.take i ++ [ts[i]] := List.take_succ_eq_append_getElem h
theorem short_step (ts : List (List UInt8)) (hT : Texts ts) (a n i : Nat) (hn : 1 ≤ n) (hi : i < ts.length) (h : i < a ∨ a + n ≤ i) :
    (shortTo ts a n i = [] ∧ shortTo ts a n (i + 1) = ts[i]) ∨ (∃ r, shortTo ts a n i = r ++ [58] ∧ shortTo ts a n (i + 1) = shortTo ts a n i ++ ts[i]) ∨
    (∃ r c, c ≠ 58 ∧ shortTo ts a n i = r ++ [c] ∧ shortTo ts a n (i + 1) = shortTo ts a n i ++ 58 :: ts[i]) := by
  rcases h with h | h
  · unfold shortTo
    rw [if_pos (by omega), if_pos (by omega), take_snocT ts i hi]
    by_cases h0 : i = 0
    · subst h0; exact .inl ⟨rfl, rfl⟩
    · have hne : ts.take i ≠ [] := by
        intro e
        have := congrArg List.length e
        rw [List.length_take, List.length_nil] at this
        omega
      obtain ⟨r, c, e, hc⟩ := joinC_last (ts.take i) (hT.take i) hne
      exact .inr (.inr ⟨r, c, hc, e, joinC_snoc _ _ hne⟩)
  · unfold shortTo
    rw [if_neg (by omega), if_neg (by omega), take_snocT ts i hi, List.drop_append_of_le_length (by simp; omega)]
    by_cases h0 : i = a + n
    · have e : (ts.take i).drop (a + n) = [] := List.drop_eq_nil_of_le (by simp; omega)
      rw [e]
      exact .inr (.inl ⟨joinC (ts.take a) ++ [58], by simp [joinC], by simp [joinC]⟩)
    · have hne : (ts.take i).drop (a + n) ≠ [] := by
        intro e
        have := congrArg List.length e
        simp at this
        omega
      obtain ⟨r, c, e, hc⟩ := joinC_last _ ((hT.take i).drop (a + n)) hne
      refine .inr (.inr ⟨joinC (ts.take a) ++ 58 :: 58 :: r, c, hc, by rw [e]; simp, ?_⟩)
      rw [joinC_snoc _ _ hne]
      simp
theorem short_all (ts : List (List UInt8)) (h8 : ts.length = 8) (a n : Nat) (h : a + n ≤ 8) (hn : 1 ≤ n) : shortTo ts a n 8 = gapped a n ts := by
  unfold shortTo gapped
  rw [if_neg (by omega), show ts.take 8 = ts from List.take_of_length_le (by omega)]
theorem short_whole (ts : List (List UInt8)) (h8 : ts.length = 8) (n : Nat) : shortTo ts 8 n 8 = joinC ts := by
  unfold shortTo
  rw [if_pos (Nat.le_refl _), List.take_of_length_le (by omega)]
theorem short_len (ts : List (List UInt8)) (h8 : ts.length = 8) (h : ∀ t ∈ ts, t.length ≤ 4) (a n i : Nat) (hn : 1 ≤ n) : (shortTo ts a n i).length ≤ 100 := by
  have key : ∀ us : List (List UInt8), us.length ≤ 8 → (∀ t ∈ us, t.length ≤ 4) → (joinC us).length ≤ 40 := by
    intro us hl hu
    have := lens_le us 4 hu
    rw [joinC_len]
    omega
  have k1 := key (ts.take i) (by simp; omega) (fun t ht => h t (List.mem_of_mem_take ht))
  have k2 := key (ts.take a) (by simp; omega) (fun t ht => h t (List.mem_of_mem_take ht))
  have k3 := key ((ts.take i).drop (a + n)) (by simp; omega) (fun t ht => h t (List.mem_of_mem_take (List.mem_of_mem_drop ht)))
  unfold shortTo
  split
  · omega
  · simp; omega

/-! ### Four digits -/
def quad (n : Nat) : List UInt8 := [hexC (n / 4096), hexC (n / 256 % 16), hexC (n / 16 % 16), hexC (n % 16)]
theorem quad_okP (n : Nat) (h : n ≤ 65535) : okP (quad n) = true := by
  rw [okP_iff]
  refine ⟨by simp [quad], by simp [quad], ?_⟩
  simp only [quad, List.all_cons, List.all_nil, okC_hexC (show n / 4096 < 16 by omega), okC_hexC (show n / 256 % 16 < 16 by omega), okC_hexC (show n / 16 % 16 < 16 by omega), okC_hexC (show n % 16 < 16 by omega)]
  rfl
theorem quad_val (n : Nat) (h : n ≤ 65535) : valN (quad n) = n := by
  simp only [quad, valN, List.foldl_cons, List.foldl_nil, hexV_hexC (show n / 4096 < 16 by omega), hexV_hexC (show n / 256 % 16 < 16 by omega), hexV_hexC (show n / 16 % 16 < 16 by omega), hexV_hexC (show n % 16 < 16 by omega), Int.toNat_natCast]
  omega
def quads (p : List Int) : List (List UInt8) := p.map fun z => quad z.toNat
theorem quads_len (p : List Int) : (quads p).length = p.length := by simp [quads]
theorem quads_okP (p : List Int) (h : mayP p = true) : (quads p).all okP = true := by
  rw [List.all_eq_true]
  intro t ht
  obtain ⟨z, hz, rfl⟩ := List.mem_map.1 ht
  have := (may_iff p).1 h z hz
  exact quad_okP _ (by omega)
theorem quads_val (p : List Int) (h : mayP p = true) : ints ((quads p).map valN) = p := by
  have : ∀ z ∈ p, Int.ofNat (valN (quad z.toNat)) = z := fun z hz => by
    have := (may_iff p).1 h z hz
    rw [quad_val _ (by omega)]
    exact Int.toNat_of_nonneg this.1
  unfold ints quads
  rw [List.map_map, List.map_map]
  conv => rhs; rw [← List.map_id p]
  exact List.map_congr_left this
/-- Noughts laid from place a on, n of them: of the first k. -/
def zeroTo (p : List Int) (a n k : Nat) : List Int := p.mapIdx fun j z => if j < k ∧ a ≤ j ∧ j < a + n then 0 else z
theorem zeroTo_len (p : List Int) (a n k : Nat) : (zeroTo p a n k).length = p.length := by simp [zeroTo]
theorem zeroTo_zero (p : List Int) (a n : Nat) : zeroTo p a n 0 = p := by
  apply List.ext_getElem?
  intro j
  simp [zeroTo]
theorem zeroTo_at (p : List Int) (a n k : Nat) (h : k < p.length) (h' : k < (zeroTo p a n k).length) : (zeroTo p a n k)[k] = p[k] := by simp [zeroTo]
theorem zeroTo_in (p : List Int) (a n k : Nat) (h : k < p.length) (h1 : a ≤ k) (h2 : k < a + n) : (zeroTo p a n k).set k 0 = zeroTo p a n (k + 1) := by
  apply List.ext_getElem
  · simp [zeroTo]
  · intro j h3 h4
    rw [List.getElem_set]
    simp only [zeroTo, List.getElem_mapIdx]
    by_cases e : k = j
    · subst e; rw [if_pos rfl, if_pos ⟨by omega, h1, h2⟩]
    · rw [if_neg e]
      by_cases hc : j < k ∧ a ≤ j ∧ j < a + n
      · rw [if_pos hc, if_pos ⟨by omega, hc.2.1, hc.2.2⟩]
      · rw [if_neg hc, if_neg (by omega)]
theorem zeroTo_out (p : List Int) (a n k : Nat) (h : ¬ (a ≤ k ∧ k < a + n)) : zeroTo p a n (k + 1) = zeroTo p a n k := by
  apply List.ext_getElem
  · simp [zeroTo]
  · intro j h3 h4
    simp only [zeroTo, List.getElem_mapIdx]
    by_cases e : j = k
    · subst e; rw [if_neg (by omega), if_neg (by omega)]
    · by_cases hc : j < k ∧ a ≤ j ∧ j < a + n
      · rw [if_pos hc, if_pos ⟨by omega, hc.2.1, hc.2.2⟩]
      · rw [if_neg hc, if_neg (by omega)]
theorem zeroTo_may (p : List Int) (a n k : Nat) (h : mayP p = true) : mayP (zeroTo p a n k) = true := by
  rw [may_iff] at h ⊢
  intro z hz
  obtain ⟨j, hj, rfl⟩ := List.mem_iff_getElem.1 hz
  simp only [zeroTo, List.getElem_mapIdx]
  split
  · omega
  · exact h _ (List.getElem_mem _)
theorem zeroTo_row (p : List Int) (h8 : p.length = 8) (a n : Nat) (h : a + n ≤ 8) : ∀ j, a ≤ j → j < a + n → ((quads (zeroTo p a n 8)).map valN)[j]? = some 0 := by
  intro j h1 h2
  have hj : j < p.length := by omega
  simp only [quads, zeroTo, List.getElem?_map, List.getElem?_mapIdx, List.getElem?_eq_getElem hj, Option.map_some]
  rw [if_pos ⟨by omega, h1, h2⟩]
  exact congrArg some (quad_val 0 (by omega))
/-- What SixZeros asks of its three texts. -/
theorem zeros_long (p : List Int) (h8 : p.length = 8) (hm : mayP p = true) : parB (joinC (quads p)) = true ∧ parI (joinC (quads p)) = p := by
  obtain ⟨h1, h2⟩ := par_eight (quads p) (quads_okP p hm) (by rw [quads_len, h8])
  exact ⟨h1, by rw [h2, quads_val p hm]⟩
theorem zeros_more (p : List Int) (h8 : p.length = 8) (hm : mayP p = true) : parB (58 :: 58 :: joinC (quads p)) = false := by
  have := (par_gap [] (quads p) rfl (quads_okP p hm)).1
  rw [show (58 :: 58 :: joinC (quads p)) = joinC [] ++ 58 :: 58 :: joinC (quads p) from rfl, this]
  exact decide_eq_false (by simp [quads_len, h8])
end Go.Proofs.YtgfhjigalefkmaaDoor.Six
