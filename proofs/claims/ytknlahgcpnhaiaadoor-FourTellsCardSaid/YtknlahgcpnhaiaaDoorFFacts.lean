/-
  Numbers of 32 bits as four parts with dots between, as lists of bytes: shown, parsed, and what stands behind the last dot. Nothing of the program.
-/
import Derived.Test.YtknlahgcpnhaiaaDoorDeci
import Derived.Lib.Split
import Derived.Lib.Join
import Derived.Lib.LastIndexLaws
namespace Go.Proofs.YtknlahgcpnhaiaaDoor.Four

def join4 (a b c d : List UInt8) : List UInt8 := a ++ 46 :: (b ++ 46 :: (c ++ 46 :: d))
/-- A number's four bytes as numbers, with dots between. -/
def show4 (n : Nat) : List UInt8 := join4 (Deci.showN (n / 16777216)) (Deci.showN (n / 65536 % 256)) (Deci.showN (n / 256 % 256)) (Deci.showN (n % 256))
def fitsB (n : Int) : Bool := decide (0 ≤ n) && decide (n ≤ 4294967295)
def showF (n : Int) : List UInt8 := if fitsB n then show4 n.toNat else []
def innerB (n : Int) : Bool := decide (2130706432 ≤ n) && decide (n ≤ 2147483647)
def num4 (a b c d : Nat) : Nat := ((a * 256 + b) * 256 + c) * 256 + d
/-- Is it a part: digits up to 255, as they are shown? -/
def okB (p : List UInt8) : Bool := Deci.readB p 255 && (p == Deci.showN (Deci.valN p))
def ok4 : List (List UInt8) → Bool
  | [a, b, c, d] => okB a && (okB b && (okB c && okB d))
  | _ => false
def val4 : List (List UInt8) → Nat
  | [a, b, c, d] => num4 (Deci.valN a) (Deci.valN b) (Deci.valN c) (Deci.valN d)
  | _ => 0
def cuts (l : List UInt8) : List (List UInt8) := Lib.splitK [46] 0 (min 5 (l.length + 1) - 1) l
/-- Is it a number's text? -/
def parB (l : List UInt8) : Bool := ok4 (cuts l)
def parI (l : List UInt8) : Int := if parB l then (val4 (cuts l) : Int) else 0
/-- What stands behind the last dot. -/
def aft : List UInt8 → List UInt8
  | [] => []
  | c :: r => if 46 ∈ r then aft r else if c = 46 then r else c :: r
def lookB (l : List UInt8) : Bool := Deci.plainB (aft l)

/-! ### Dots -/
theorem no_dot {p : List UInt8} (h : p.all Deci.digB = true) : (46 : UInt8) ∉ p := by
  intro hm
  have := List.all_eq_true.1 h 46 hm
  revert this
  decide
theorem show_no_dot (n : Nat) : (46 : UInt8) ∉ Deci.showN n := no_dot (Deci.showN_all n)
theorem occ_dot (l : List UInt8) (i : Nat) : Lib.occAt l [46] i = true ↔ l[i]? = some 46 := by
  constructor
  · exact fun h => Lib.occAt_head rfl h
  · intro h
    obtain ⟨hi, e⟩ := List.getElem?_eq_some_iff.1 h
    unfold Lib.occAt
    rw [List.drop_eq_getElem_cons hi, e]
    simp
theorem occ_dot_not (l : List UInt8) (i : Nat) (h : l[i]? ≠ some 46) : Lib.occAt l [46] i = false := by
  cases e : Lib.occAt l [46] i
  · rfl
  · exact absurd ((occ_dot l i).1 e) h
theorem idx_none (l : List UInt8) (h : (46 : UInt8) ∉ l) : Lib.index l [46] = -1 :=
  Lib.index_none fun j _ => occ_dot_not l j fun e => h (List.mem_of_getElem? e)
theorem idx_some (a r : List UInt8) (h : (46 : UInt8) ∉ a) : Lib.index (a ++ 46 :: r) [46] = (a.length : Int) := by
  refine Lib.index_first (by simp) ((occ_dot _ _).2 (by simp)) fun j hj => occ_dot_not _ j fun e => h ?_
  rw [List.getElem?_append_left hj] at e
  exact List.mem_of_getElem? e
theorem split_none (k : Nat) (l : List UInt8) (h : (46 : UInt8) ∉ l) : Lib.splitK [46] 0 k l = [l] := by
  cases k with
  | zero => rfl
  | succ k => unfold Lib.splitK; rw [idx_none l h]; rfl
theorem split_dot (k : Nat) (a r : List UInt8) (h : (46 : UInt8) ∉ a) : Lib.splitK [46] 0 (k + 1) (a ++ 46 :: r) = a :: Lib.splitK [46] 0 k r := by
  conv => lhs; unfold Lib.splitK
  rw [idx_some a r h, if_neg (by simp)]
  simp
theorem first_dot (l : List UInt8) : (46 : UInt8) ∉ l ∨ ∃ a r, l = a ++ 46 :: r ∧ (46 : UInt8) ∉ a := by
  by_cases h : (46 : UInt8) ∈ l
  · exact .inr (List.eq_append_cons_of_mem h)
  · exact .inl h
theorem join_split (k : Nat) (l : List UInt8) : Lib.join (Lib.splitK [46] 0 k l) [46] = l := by
  induction k generalizing l with
  | zero => exact Lib.join_one _ _
  | succ k ih =>
    rcases first_dot l with h | ⟨a, r, rfl, h⟩
    · rw [split_none _ _ h]; exact Lib.join_one _ _
    · rw [split_dot _ _ _ h, Lib.join_cons]
      have e := ih r
      cases hs : Lib.splitK [46] 0 k r with
      | nil => cases k <;> (unfold Lib.splitK at hs; first | cases hs | (split at hs <;> cases hs))
      | cons x xs =>
        rw [hs, Lib.join_cons] at e
        rw [← e]
        simp [Lib.joinTail]
theorem join_four (a b c d : List UInt8) : Lib.join [a, b, c, d] [46] = join4 a b c d := by
  rw [Lib.join_cons]
  simp [Lib.joinTail, join4]
theorem cuts_four (a b c d : List UInt8) (ha : (46 : UInt8) ∉ a) (hb : (46 : UInt8) ∉ b) (hc : (46 : UInt8) ∉ c) (hd : (46 : UInt8) ∉ d) (hl : 4 ≤ (join4 a b c d).length) : cuts (join4 a b c d) = [a, b, c, d] := by
  unfold cuts
  rw [show min 5 ((join4 a b c d).length + 1) - 1 = 4 by omega]
  unfold join4
  rw [split_dot _ _ _ ha, split_dot _ _ _ hb, split_dot _ _ _ hc, split_none _ _ hd]

/-! ### Shown and parsed -/
theorem okB_iff (p : List UInt8) : okB p = true ↔ p.all Deci.digB = true ∧ p ≠ [] ∧ Deci.valN p ≤ 255 ∧ p = Deci.showN (Deci.valN p) := by
  unfold okB Deci.readB
  rw [Bool.and_eq_true, Bool.and_eq_true, Deci.plain_iff, decide_eq_true_iff, beq_iff_eq]
  constructor
  · rintro ⟨⟨⟨h1, h2⟩, h3⟩, h4⟩; exact ⟨h2, h1, by omega, h4⟩
  · rintro ⟨h2, h1, h3, h4⟩; exact ⟨⟨⟨h1, h2⟩, by omega⟩, h4⟩
theorem okB_show (n : Nat) (h : n ≤ 255) : okB (Deci.showN n) = true := by
  rw [okB_iff, Deci.valN_showN]
  exact ⟨Deci.showN_all n, Deci.showN_ne n, h, rfl⟩
theorem show4_len (n : Nat) (h : n ≤ 4294967295) : 7 ≤ (show4 n).length ∧ (show4 n).length ≤ 15 := by
  have a := Deci.showN_len_pow 2 (n / 16777216) (by omega)
  have b := Deci.showN_len_pow 2 (n / 65536 % 256) (by omega)
  have c := Deci.showN_len_pow 2 (n / 256 % 256) (by omega)
  have d := Deci.showN_len_pow 2 (n % 256) (by omega)
  have a' := Deci.showN_pos (n / 16777216)
  have b' := Deci.showN_pos (n / 65536 % 256)
  have c' := Deci.showN_pos (n / 256 % 256)
  have d' := Deci.showN_pos (n % 256)
  unfold show4 join4
  simp only [List.length_append, List.length_cons]
  omega
theorem num4_of (n : Nat) : num4 (n / 16777216) (n / 65536 % 256) (n / 256 % 256) (n % 256) = n := by unfold num4; omega
theorem cuts_show (n : Nat) (h : n ≤ 4294967295) : cuts (show4 n) = [Deci.showN (n / 16777216), Deci.showN (n / 65536 % 256), Deci.showN (n / 256 % 256), Deci.showN (n % 256)] := by
  have := (show4_len n h).1
  unfold show4 at this ⊢
  exact cuts_four _ _ _ _ (show_no_dot _) (show_no_dot _) (show_no_dot _) (show_no_dot _) (by omega)
theorem parB_show (n : Nat) (h : n ≤ 4294967295) : parB (show4 n) = true := by
  unfold parB
  rw [cuts_show n h]
  show (okB _ && (okB _ && (okB _ && okB _))) = true
  rw [okB_show _ (by omega), okB_show _ (by omega), okB_show _ (by omega), okB_show _ (by omega)]
  rfl
theorem parI_show (n : Nat) (h : n ≤ 4294967295) : parI (show4 n) = (n : Int) := by
  unfold parI
  rw [if_pos (parB_show n h), cuts_show n h]
  unfold val4
  simp only [Deci.valN_showN]
  rw [num4_of]
theorem show4_num (a b c d : Nat) (hb : b ≤ 255) (hc : c ≤ 255) (hd : d ≤ 255) : show4 (num4 a b c d) = join4 (Deci.showN a) (Deci.showN b) (Deci.showN c) (Deci.showN d) := by
  unfold show4 num4
  rw [show (((a * 256 + b) * 256 + c) * 256 + d) / 16777216 = a by omega, show (((a * 256 + b) * 256 + c) * 256 + d) / 65536 % 256 = b by omega, show (((a * 256 + b) * 256 + c) * 256 + d) / 256 % 256 = c by omega, show (((a * 256 + b) * 256 + c) * 256 + d) % 256 = d by omega]
/-- What is a number's text is what is shown of a number of 32 bits. -/
theorem parB_some (l : List UInt8) (h : parB l = true) : ∃ n : Nat, n ≤ 4294967295 ∧ l = show4 n ∧ parI l = (n : Int) := by
  have hj := join_split (min 5 (l.length + 1) - 1) l
  have key : ∃ a b c d, cuts l = [a, b, c, d] ∧ okB a = true ∧ okB b = true ∧ okB c = true ∧ okB d = true := by
    unfold parB at h
    unfold ok4 at h
    split at h
    · rename_i a b c d e
      rw [Bool.and_eq_true, Bool.and_eq_true, Bool.and_eq_true] at h
      exact ⟨a, b, c, d, e, h.1, h.2.1, h.2.2.1, h.2.2.2⟩
    · cases h
  obtain ⟨a, b, c, d, e, ha, hb, hc, hd⟩ := key
  obtain ⟨_, _, a1, a2⟩ := (okB_iff a).1 ha
  obtain ⟨_, _, b1, b2⟩ := (okB_iff b).1 hb
  obtain ⟨_, _, c1, c2⟩ := (okB_iff c).1 hc
  obtain ⟨_, _, d1, d2⟩ := (okB_iff d).1 hd
  have el : l = show4 (num4 (Deci.valN a) (Deci.valN b) (Deci.valN c) (Deci.valN d)) := by
    rw [show4_num _ _ _ _ b1 c1 d1, ← a2, ← b2, ← c2, ← d2, ← join_four, ← e]
    exact hj.symm
  have hn : num4 (Deci.valN a) (Deci.valN b) (Deci.valN c) (Deci.valN d) ≤ 4294967295 := by unfold num4; omega
  exact ⟨_, hn, el, by rw [el]; exact parI_show _ hn⟩
theorem parI_none (l : List UInt8) (h : parB l = false) : parI l = 0 := by
  unfold parI
  rw [h]
  rfl
theorem show4_inj {n m : Nat} (hn : n ≤ 4294967295) (hm : m ≤ 4294967295) (h : show4 n = show4 m) : n = m := by
  have := parI_show n hn
  rw [h, parI_show m hm] at this
  omega
theorem count_show (n : Nat) : (show4 n).count 46 = 3 := by
  have h : ∀ k, (Deci.showN k).count 46 = 0 := fun k => List.count_eq_zero.2 (show_no_dot k)
  unfold show4 join4
  simp only [List.count_append, List.count_cons, h, beq_self_eq_true, if_true]
theorem par_count (l : List UInt8) (h : l.count 46 ≠ 3) : parB l = false := by
  cases e : parB l
  · rfl
  · obtain ⟨n, _, rfl, _⟩ := parB_some l e
    exact absurd (count_show n) h
theorem par_zero (n : Nat) (h : n ≤ 4294967295) : parB (48 :: show4 n) = false := by
  have hl := show4_len n h
  have e : 48 :: show4 n = join4 (48 :: Deci.showN (n / 16777216)) (Deci.showN (n / 65536 % 256)) (Deci.showN (n / 256 % 256)) (Deci.showN (n % 256)) := rfl
  have hc : cuts (48 :: show4 n) = [48 :: Deci.showN (n / 16777216), Deci.showN (n / 65536 % 256), Deci.showN (n / 256 % 256), Deci.showN (n % 256)] := by
    rw [e]
    refine cuts_four _ _ _ _ ?_ (show_no_dot _) (show_no_dot _) (show_no_dot _) (by rw [← e, List.length_cons]; omega)
    intro hm
    rcases List.mem_cons.1 hm with h | h
    · revert h; decide
    · exact show_no_dot _ h
  have hv : Deci.valN (48 :: Deci.showN (n / 16777216)) = n / 16777216 := by
    have := Deci.valF_zeros (Deci.showN (n / 16777216)) 1
    rw [Deci.valN_showN] at this
    exact this
  have h0 : okB (48 :: Deci.showN (n / 16777216)) = false := by
    cases e : okB (48 :: Deci.showN (n / 16777216))
    · rfl
    · have := ((okB_iff _).1 e).2.2.2
      rw [hv] at this
      have := congrArg List.length this
      simp at this
  unfold parB
  rw [hc]
  show (okB _ && (okB _ && (okB _ && okB _))) = false
  rw [h0]
  rfl
theorem par_nil : parB [] = false := by decide +kernel

/-! ### Behind the last dot -/
theorem aft_none (l : List UInt8) (h : (46 : UInt8) ∉ l) : aft l = l := by
  cases l with
  | nil => rfl
  | cons c r =>
    rw [List.mem_cons] at h
    unfold aft
    rw [if_neg (fun e => h (.inr e)), if_neg (fun e => h (.inl e.symm))]
theorem aft_dot (a b : List UInt8) (h : (46 : UInt8) ∉ b) : aft (a ++ 46 :: b) = b := by
  induction a with
  | nil => show aft (46 :: b) = b; unfold aft; rw [if_neg h, if_pos rfl]
  | cons c a ih => show aft (c :: (a ++ 46 :: b)) = b; unfold aft; rw [if_pos (by simp)]; exact ih
theorem aft_show (n : Nat) : aft (show4 n) = Deci.showN (n % 256) := by
  have e : show4 n = (Deci.showN (n / 16777216) ++ 46 :: (Deci.showN (n / 65536 % 256) ++ 46 :: Deci.showN (n / 256 % 256))) ++ 46 :: Deci.showN (n % 256) := by
    unfold show4 join4; simp
  rw [e]
  exact aft_dot _ _ (show_no_dot _)
theorem look_show (n : Nat) : lookB (show4 n) = true := by
  unfold lookB
  rw [aft_show]
  exact Deci.showN_plain _
theorem last_dot (l : List UInt8) : (Lib.lastIndex l [46] = -1 ∧ (46 : UInt8) ∉ l) ∨ ∃ k : Nat, Lib.lastIndex l [46] = k ∧ k < l.length ∧ l[k]? = some 46 ∧ (46 : UInt8) ∉ l.drop (k + 1) := by
  unfold Lib.lastIndex
  by_cases h0 : ([46] : List UInt8).length ≤ l.length
  · rw [if_pos h0]
    simp only [List.length_cons, List.length_nil] at h0 ⊢
    have hspec := Lib.lastOcc_spec l [46] (l.length - (0 + 1) + 1)
    rcases hspec with ⟨h1, h2⟩ | ⟨k, h2, h1, h3, h4⟩
    · refine .inl ⟨h1, fun hm => ?_⟩
      obtain ⟨i, hi⟩ := List.mem_iff_getElem?.1 hm
      have hlt := (List.getElem?_eq_some_iff.1 hi).1
      have := h2 i (by omega)
      rw [(occ_dot l i).2 hi] at this
      cases this
    · refine .inr ⟨k, h1, by omega, (occ_dot l k).1 h3, fun hm => ?_⟩
      obtain ⟨i, hi⟩ := List.mem_iff_getElem?.1 hm
      rw [List.getElem?_drop] at hi
      have hlt := (List.getElem?_eq_some_iff.1 hi).1
      have := h4 (k + 1 + i) (by omega) (by omega)
      rw [(occ_dot l _).2 hi] at this
      cases this
  · rw [if_neg h0]
    refine .inl ⟨rfl, ?_⟩
    have : l = [] := List.length_eq_zero_iff.1 (by simp only [List.length_cons, List.length_nil] at h0; omega)
    rw [this]
    simp
theorem aft_at (l : List UInt8) (k : Nat) (h : l[k]? = some 46) (hn : (46 : UInt8) ∉ l.drop (k + 1)) : aft l = l.drop (k + 1) := by
  obtain ⟨hk, e⟩ := List.getElem?_eq_some_iff.1 h
  have : l = l.take k ++ 46 :: l.drop (k + 1) := by
    conv => lhs; rw [← List.take_append_drop k l, List.drop_eq_getElem_cons hk, e]
  conv => lhs; rw [this]
  exact aft_dot _ _ hn
theorem aft_last (l : List UInt8) : l.drop (Lib.lastIndex l [46] + 1).toNat = aft l := by
  rcases last_dot l with ⟨h, hn⟩ | ⟨k, h, hk, hd, hn⟩
  · rw [h, aft_none l hn]; rfl
  · rw [h, aft_at l k hd hn]
    congr 1

end Go.Proofs.YtknlahgcpnhaiaaDoor.Four
