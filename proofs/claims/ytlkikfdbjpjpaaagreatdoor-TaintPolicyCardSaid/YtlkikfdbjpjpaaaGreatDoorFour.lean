/-
  Numbers of 32 bits as four parts with dots between, as lists of bytes: shown, parsed, and what stands behind the last dot. Nothing of the program.
  fits, byteAt, Inner, Looks, and the document's Inner.
  Show(n).
  Parse(s).
  The document's Show, byteAt, Parse and Looks.
  The document's byteAt and Parse.
  The chapter's examples answer as the chapter says (awake); what each law's text takes of the calls.
-/
import Derived.Lib.Split
import Derived.Lib.Join
import Derived.Lib.LastIndexLaws
import Derived.Laws.BitsAllLaws
import Derived.Deep.RegionWith
import Derived.BigRegion
import Derived.Shelf.Abstract
import Derived.Test.YtlkikfdbjpjpaaaGreatDoorDeci
import Derived.Test.YtlkikfdbjpjpaaaGreatDoorShelf
namespace Go.Proofs.YtlkikfdbjpjpaaaGreatDoor.Four
set_option linter.unusedSimpArgs false
set_option linter.unusedVariables false
set_option maxRecDepth 100000


def join4 (a b c d : List UInt8) : List UInt8 := a ++ 46 :: (b ++ 46 :: (c ++ 46 :: d))

/-- A number's four bytes as numbers, with dots between. -/
def show4 (n : Nat) : List UInt8 := join4 (Deci.showN (n / 16777216)) (Deci.showN (n / 65536 % 256)) (Deci.showN (n / 256 % 256)) (Deci.showN (n % 256))

def fitsB (n : Int) : Bool := decide (0 ≤ n) && decide (n ≤ 4294967295)

def showF (n : Int) : List UInt8 := if fitsB n then show4 n.toNat else []

def innerB (n : Int) : Bool := decide (2130706432 ≤ n) && decide (n ≤ 2147483647)

def num4 (a b c d : Nat) : Nat := ((a * 256 + b) * 256 + c) * 256 + d

/-- Is it a part: digits up to 255, as they are shown? -/
def okB (p : List UInt8) : Bool := Deci.readB p 255 && (p == Deci.showN (Deci.valN p))

def ok4 : List (List UInt8) → Bool
  | [a, b, c, d] => okB a && (okB b && (okB c && okB d))
  | _ => false

def val4 : List (List UInt8) → Nat
  | [a, b, c, d] => num4 (Deci.valN a) (Deci.valN b) (Deci.valN c) (Deci.valN d)
  | _ => 0

def cuts (l : List UInt8) : List (List UInt8) := Lib.splitK [46] 0 (min 5 (l.length + 1) - 1) l

/-- Is it a number's text? -/
def parB (l : List UInt8) : Bool := ok4 (cuts l)

def parI (l : List UInt8) : Int := if parB l then (val4 (cuts l) : Int) else 0

/-- What stands behind the last dot. -/
def aft : List UInt8 → List UInt8
  | [] => []
  | c :: r => if 46 ∈ r then aft r else if c = 46 then r else c :: r

def lookB (l : List UInt8) : Bool := Deci.plainB (aft l)

/-! ### Dots -/

theorem no_dot {p : List UInt8} (h : p.all Deci.digB = true) : (46 : UInt8) ∉ p := by
  intro hm
  have := List.all_eq_true.1 h 46 hm
  revert this
  decide

theorem show_no_dot (n : Nat) : (46 : UInt8) ∉ Deci.showN n := no_dot (Deci.showN_all n)

theorem occ_dot (l : List UInt8) (i : Nat) : Lib.occAt l [46] i = true ↔ l[i]? = some 46 := by
  constructor
  · exact fun h => Lib.occAt_head rfl h
  · intro h
    obtain ⟨hi, e⟩ := List.getElem?_eq_some_iff.1 h
    unfold Lib.occAt
    rw [List.drop_eq_getElem_cons hi, e]
    simp

theorem occ_dot_not (l : List UInt8) (i : Nat) (h : l[i]? ≠ some 46) : Lib.occAt l [46] i = false := by
  cases e : Lib.occAt l [46] i
  · rfl
  · exact absurd ((occ_dot l i).1 e) h

theorem idx_none (l : List UInt8) (h : (46 : UInt8) ∉ l) : Lib.index l [46] = -1 :=
  Lib.index_none fun j _ => occ_dot_not l j fun e => h (List.mem_of_getElem? e)

theorem idx_some (a r : List UInt8) (h : (46 : UInt8) ∉ a) : Lib.index (a ++ 46 :: r) [46] = (a.length : Int) := by
  refine Lib.index_first (by simp) ((occ_dot _ _).2 (by simp)) fun j hj => occ_dot_not _ j fun e => h ?_
  rw [List.getElem?_append_left hj] at e
  exact List.mem_of_getElem? e

theorem split_none (k : Nat) (l : List UInt8) (h : (46 : UInt8) ∉ l) : Lib.splitK [46] 0 k l = [l] := by
  cases k with
  | zero => rfl
  | succ k => unfold Lib.splitK; rw [idx_none l h]; rfl

theorem split_dot (k : Nat) (a r : List UInt8) (h : (46 : UInt8) ∉ a) : Lib.splitK [46] 0 (k + 1) (a ++ 46 :: r) = a :: Lib.splitK [46] 0 k r := by
  conv => lhs; unfold Lib.splitK
  rw [idx_some a r h, if_neg (by simp)]
  simp

theorem first_dot (l : List UInt8) : (46 : UInt8) ∉ l ∨ ∃ a r, l = a ++ 46 :: r ∧ (46 : UInt8) ∉ a := by
  by_cases h : (46 : UInt8) ∈ l
  · exact .inr (List.eq_append_cons_of_mem h)
  · exact .inl h

theorem join_split (k : Nat) (l : List UInt8) : Lib.join (Lib.splitK [46] 0 k l) [46] = l := by
  induction k generalizing l with
  | zero => exact Lib.join_one _ _
  | succ k ih =>
    rcases first_dot l with h | ⟨a, r, rfl, h⟩
    · rw [split_none _ _ h]; exact Lib.join_one _ _
    · rw [split_dot _ _ _ h, Lib.join_cons]
      have e := ih r
      cases hs : Lib.splitK [46] 0 k r with
      | nil => cases k <;> (unfold Lib.splitK at hs; first | cases hs | (split at hs <;> cases hs))
      | cons x xs =>
        rw [hs, Lib.join_cons] at e
        rw [← e]
        simp [Lib.joinTail]

theorem join_four (a b c d : List UInt8) : Lib.join [a, b, c, d] [46] = join4 a b c d := by
  rw [Lib.join_cons]
  simp [Lib.joinTail, join4]

theorem cuts_four (a b c d : List UInt8) (ha : (46 : UInt8) ∉ a) (hb : (46 : UInt8) ∉ b) (hc : (46 : UInt8) ∉ c) (hd : (46 : UInt8) ∉ d) (hl : 4 ≤ (join4 a b c d).length) : cuts (join4 a b c d) = [a, b, c, d] := by
  unfold cuts
  rw [show min 5 ((join4 a b c d).length + 1) - 1 = 4 by omega]
  unfold join4
  rw [split_dot _ _ _ ha, split_dot _ _ _ hb, split_dot _ _ _ hc, split_none _ _ hd]

/-! ### Shown and parsed -/

theorem okB_iff (p : List UInt8) : okB p = true ↔ p.all Deci.digB = true ∧ p ≠ [] ∧ Deci.valN p ≤ 255 ∧ p = Deci.showN (Deci.valN p) := by
  unfold okB Deci.readB
  rw [Bool.and_eq_true, Bool.and_eq_true, Deci.plain_iff, decide_eq_true_iff, beq_iff_eq]
  constructor
  · rintro ⟨⟨⟨h1, h2⟩, h3⟩, h4⟩; exact ⟨h2, h1, by omega, h4⟩
  · rintro ⟨h2, h1, h3, h4⟩; exact ⟨⟨⟨h1, h2⟩, by omega⟩, h4⟩

theorem okB_show (n : Nat) (h : n ≤ 255) : okB (Deci.showN n) = true := by
  rw [okB_iff, Deci.valN_showN]
  exact ⟨Deci.showN_all n, Deci.showN_ne n, h, rfl⟩

theorem show4_len (n : Nat) (h : n ≤ 4294967295) : 7 ≤ (show4 n).length ∧ (show4 n).length ≤ 15 := by
  have a := Deci.showN_len_pow 2 (n / 16777216) (by omega)
  have b := Deci.showN_len_pow 2 (n / 65536 % 256) (by omega)
  have c := Deci.showN_len_pow 2 (n / 256 % 256) (by omega)
  have d := Deci.showN_len_pow 2 (n % 256) (by omega)
  have a' := Deci.showN_pos (n / 16777216)
  have b' := Deci.showN_pos (n / 65536 % 256)
  have c' := Deci.showN_pos (n / 256 % 256)
  have d' := Deci.showN_pos (n % 256)
  unfold show4 join4
  simp only [List.length_append, List.length_cons]
  omega

theorem num4_of (n : Nat) : num4 (n / 16777216) (n / 65536 % 256) (n / 256 % 256) (n % 256) = n := by unfold num4; omega

theorem cuts_show (n : Nat) (h : n ≤ 4294967295) : cuts (show4 n) = [Deci.showN (n / 16777216), Deci.showN (n / 65536 % 256), Deci.showN (n / 256 % 256), Deci.showN (n % 256)] := by
  have := (show4_len n h).1
  unfold show4 at this ⊢
  exact cuts_four _ _ _ _ (show_no_dot _) (show_no_dot _) (show_no_dot _) (show_no_dot _) (by omega)

theorem parB_show (n : Nat) (h : n ≤ 4294967295) : parB (show4 n) = true := by
  unfold parB
  rw [cuts_show n h]
  show (okB _ && (okB _ && (okB _ && okB _))) = true
  rw [okB_show _ (by omega), okB_show _ (by omega), okB_show _ (by omega), okB_show _ (by omega)]
  rfl

theorem parI_show (n : Nat) (h : n ≤ 4294967295) : parI (show4 n) = (n : Int) := by
  unfold parI
  rw [if_pos (parB_show n h), cuts_show n h]
  unfold val4
  simp only [Deci.valN_showN]
  rw [num4_of]

theorem show4_num (a b c d : Nat) (hb : b ≤ 255) (hc : c ≤ 255) (hd : d ≤ 255) : show4 (num4 a b c d) = join4 (Deci.showN a) (Deci.showN b) (Deci.showN c) (Deci.showN d) := by
  unfold show4 num4
  rw [show (((a * 256 + b) * 256 + c) * 256 + d) / 16777216 = a by omega, show (((a * 256 + b) * 256 + c) * 256 + d) / 65536 % 256 = b by omega, show (((a * 256 + b) * 256 + c) * 256 + d) / 256 % 256 = c by omega, show (((a * 256 + b) * 256 + c) * 256 + d) % 256 = d by omega]

/-- What is a number's text is what is shown of a number of 32 bits. -/
theorem parB_some (l : List UInt8) (h : parB l = true) : ∃ n : Nat, n ≤ 4294967295 ∧ l = show4 n ∧ parI l = (n : Int) := by
  have hj := join_split (min 5 (l.length + 1) - 1) l
  have key : ∃ a b c d, cuts l = [a, b, c, d] ∧ okB a = true ∧ okB b = true ∧ okB c = true ∧ okB d = true := by
    unfold parB at h
    unfold ok4 at h
    split at h
    · rename_i a b c d e
      rw [Bool.and_eq_true, Bool.and_eq_true, Bool.and_eq_true] at h
      exact ⟨a, b, c, d, e, h.1, h.2.1, h.2.2.1, h.2.2.2⟩
    · cases h
  obtain ⟨a, b, c, d, e, ha, hb, hc, hd⟩ := key
  obtain ⟨_, _, a1, a2⟩ := (okB_iff a).1 ha
  obtain ⟨_, _, b1, b2⟩ := (okB_iff b).1 hb
  obtain ⟨_, _, c1, c2⟩ := (okB_iff c).1 hc
  obtain ⟨_, _, d1, d2⟩ := (okB_iff d).1 hd
  have el : l = show4 (num4 (Deci.valN a) (Deci.valN b) (Deci.valN c) (Deci.valN d)) := by
    rw [show4_num _ _ _ _ b1 c1 d1, ← a2, ← b2, ← c2, ← d2, ← join_four, ← e]
    exact hj.symm
  have hn : num4 (Deci.valN a) (Deci.valN b) (Deci.valN c) (Deci.valN d) ≤ 4294967295 := by unfold num4; omega
  exact ⟨_, hn, el, by rw [el]; exact parI_show _ hn⟩

theorem parI_none (l : List UInt8) (h : parB l = false) : parI l = 0 := by
  unfold parI
  rw [h]
  rfl

theorem show4_inj {n m : Nat} (hn : n ≤ 4294967295) (hm : m ≤ 4294967295) (h : show4 n = show4 m) : n = m := by
  have := parI_show n hn
  rw [h, parI_show m hm] at this
  omega

theorem count_show (n : Nat) : (show4 n).count 46 = 3 := by
  have h : ∀ k, (Deci.showN k).count 46 = 0 := fun k => List.count_eq_zero.2 (show_no_dot k)
  unfold show4 join4
  simp only [List.count_append, List.count_cons, h, beq_self_eq_true, if_true]

theorem par_count (l : List UInt8) (h : l.count 46 ≠ 3) : parB l = false := by
  cases e : parB l
  · rfl
  · obtain ⟨n, _, rfl, _⟩ := parB_some l e
    exact absurd (count_show n) h

theorem par_zero (n : Nat) (h : n ≤ 4294967295) : parB (48 :: show4 n) = false := by
  have hl := show4_len n h
  have e : 48 :: show4 n = join4 (48 :: Deci.showN (n / 16777216)) (Deci.showN (n / 65536 % 256)) (Deci.showN (n / 256 % 256)) (Deci.showN (n % 256)) := rfl
  have hc : cuts (48 :: show4 n) = [48 :: Deci.showN (n / 16777216), Deci.showN (n / 65536 % 256), Deci.showN (n / 256 % 256), Deci.showN (n % 256)] := by
    rw [e]
    refine cuts_four _ _ _ _ ?_ (show_no_dot _) (show_no_dot _) (show_no_dot _) (by rw [← e, List.length_cons]; omega)
    intro hm
    rcases List.mem_cons.1 hm with h | h
    · revert h; decide
    · exact show_no_dot _ h
  have hv : Deci.valN (48 :: Deci.showN (n / 16777216)) = n / 16777216 := by
    have := Deci.valF_zeros (Deci.showN (n / 16777216)) 1
    rw [Deci.valN_showN] at this
    exact this
  have h0 : okB (48 :: Deci.showN (n / 16777216)) = false := by
    cases e : okB (48 :: Deci.showN (n / 16777216))
    · rfl
    · have := ((okB_iff _).1 e).2.2.2
      rw [hv] at this
      have := congrArg List.length this
      simp at this
  unfold parB
  rw [hc]
  show (okB _ && (okB _ && (okB _ && okB _))) = false
  rw [h0]
  rfl

theorem par_nil : parB [] = false := by decide +kernel

/-! ### Behind the last dot -/

theorem aft_none (l : List UInt8) (h : (46 : UInt8) ∉ l) : aft l = l := by
  cases l with
  | nil => rfl
  | cons c r =>
    rw [List.mem_cons] at h
    unfold aft
    rw [if_neg (fun e => h (.inr e)), if_neg (fun e => h (.inl e.symm))]

theorem aft_dot (a b : List UInt8) (h : (46 : UInt8) ∉ b) : aft (a ++ 46 :: b) = b := by
  induction a with
  | nil => show aft (46 :: b) = b; unfold aft; rw [if_neg h, if_pos rfl]
  | cons c a ih => show aft (c :: (a ++ 46 :: b)) = b; unfold aft; rw [if_pos (by simp)]; exact ih

theorem aft_show (n : Nat) : aft (show4 n) = Deci.showN (n % 256) := by
  have e : show4 n = (Deci.showN (n / 16777216) ++ 46 :: (Deci.showN (n / 65536 % 256) ++ 46 :: Deci.showN (n / 256 % 256))) ++ 46 :: Deci.showN (n % 256) := by
    unfold show4 join4; simp
  rw [e]
  exact aft_dot _ _ (show_no_dot _)

theorem look_show (n : Nat) : lookB (show4 n) = true := by
  unfold lookB
  rw [aft_show]
  exact Deci.showN_plain _

theorem last_dot (l : List UInt8) : (Lib.lastIndex l [46] = -1 ∧ (46 : UInt8) ∉ l) ∨ ∃ k : Nat, Lib.lastIndex l [46] = k ∧ k < l.length ∧ l[k]? = some 46 ∧ (46 : UInt8) ∉ l.drop (k + 1) := by
  unfold Lib.lastIndex
  by_cases h0 : ([46] : List UInt8).length ≤ l.length
  · rw [if_pos h0]
    simp only [List.length_cons, List.length_nil] at h0 ⊢
    have hspec := Lib.lastOcc_spec l [46] (l.length - (0 + 1) + 1)
    rcases hspec with ⟨h1, h2⟩ | ⟨k, h2, h1, h3, h4⟩
    · refine .inl ⟨h1, fun hm => ?_⟩
      obtain ⟨i, hi⟩ := List.mem_iff_getElem?.1 hm
      have hlt := (List.getElem?_eq_some_iff.1 hi).1
      have := h2 i (by omega)
      rw [(occ_dot l i).2 hi] at this
      cases this
    · refine .inr ⟨k, h1, by omega, (occ_dot l k).1 h3, fun hm => ?_⟩
      obtain ⟨i, hi⟩ := List.mem_iff_getElem?.1 hm
      rw [List.getElem?_drop] at hi
      have hlt := (List.getElem?_eq_some_iff.1 hi).1
      have := h4 (k + 1 + i) (by omega) (by omega)
      rw [(occ_dot l _).2 hi] at this
      cases this
  · rw [if_neg h0]
    refine .inl ⟨rfl, ?_⟩
    have : l = [] := List.length_eq_zero_iff.1 (by simp only [List.length_cons, List.length_nil] at h0; omega)
    rw [this]
    simp

theorem aft_at (l : List UInt8) (k : Nat) (h : l[k]? = some 46) (hn : (46 : UInt8) ∉ l.drop (k + 1)) : aft l = l.drop (k + 1) := by
  obtain ⟨hk, e⟩ := List.getElem?_eq_some_iff.1 h
  have : l = l.take k ++ 46 :: l.drop (k + 1) := by
    conv => lhs; rw [← List.take_append_drop k l, List.drop_eq_getElem_cons hk, e]
  conv => lhs; rw [this]
  exact aft_dot _ _ hn

theorem aft_last (l : List UInt8) : l.drop (Lib.lastIndex l [46] + 1).toNat = aft l := by
  rcases last_dot l with ⟨h, hn⟩ | ⟨k, h, hk, hd, hn⟩
  · rw [h, aft_none l hn]; rfl
  · rw [h, aft_at l k hd hn]
    congr 1



open Go.RowKit


theorem i64_and255 (n : Int) : bits .and .i64 n 255 = n % 256 := by
  have h255 : (BitVec.ofInt 64 255).toNat = 2 ^ 8 - 1 := by decide
  have key : (BitVec.ofInt 64 n &&& BitVec.ofInt 64 255).toNat = (n % ((2 ^ 64 : Nat) : Int)).toNat % 2 ^ 8 := by
    rw [BitVec.toNat_and, BitVec.toNat_ofInt, h255, Nat.and_two_pow_sub_one_eq_mod]
  show IntKind.i64.wrap ((BitVec.ofInt 64 n &&& BitVec.ofInt 64 255).toNat : Nat) = n % 256
  rw [key, IntKind.wrap_i64]
  omega

theorem i64_or8 (n c : Nat) (hn : n ≤ 4294967295) (hc : c < 256) : bits .or .i64 ((n : Int) * 256) (c : Int) = ((n * 256 + c : Nat) : Int) := by
  have e1 : (BitVec.ofInt 64 ((n : Int) * 256)).toNat = n * 256 := by rw [BitVec.toNat_ofInt]; omega
  have e2 : (BitVec.ofInt 64 (c : Int)).toNat = c := by rw [BitVec.toNat_ofInt]; omega
  have key : (BitVec.ofInt 64 ((n : Int) * 256) ||| BitVec.ofInt 64 (c : Int)).toNat = n * 256 + c := by
    rw [BitVec.toNat_or, e1, e2]
    exact nat_join 8 _ _ (by omega) hc
  show IntKind.i64.wrap ((BitVec.ofInt 64 ((n : Int) * 256) ||| BitVec.ofInt 64 (c : Int)).toNat : Nat) = _
  rw [key, IntKind.wrap_i64]
  omega

theorem fitsB_true {n : Int} (h : fitsB n = true) : 0 ≤ n ∧ n ≤ 4294967295 := by
  unfold fitsB at h
  simpa using h

theorem fitsB_false {n : Int} (h : fitsB n = false) : n < 0 ∨ 4294967295 < n := by
  unfold fitsB at h
  simp at h
  omega

theorem fits_any (n : Int) (w : World) : Calls Tryz.prog 145 #[.int .i64 n] w fun e w' => e = .returned (.bool (fitsB n)) ∧ w = w' := by
  by_cases h0 : 0 ≤ n
  · by_cases h1 : n ≤ 4294967295
    · have b0 : decide (0 ≤ n) = true := decide_eq_true h0
      have b1 : decide (n ≤ 4294967295) = true := decide_eq_true h1
      go_enter Tryz.func145, Tryz.ntmps145
      go_wp2
      go_ret
      exact ⟨by simp [fitsB, b0, b1], rfl⟩
    · have b0 : decide (0 ≤ n) = true := decide_eq_true h0
      have b1 : decide (n ≤ 4294967295) = false := decide_eq_false h1
      go_enter Tryz.func145, Tryz.ntmps145
      go_wp2
      go_ret
      exact ⟨by simp [fitsB, b0, b1], rfl⟩
  · have b0 : decide (0 ≤ n) = false := decide_eq_false h0
    go_enter Tryz.func145, Tryz.ntmps145
    go_wp2
    go_ret
    exact ⟨by simp [fitsB, b0], rfl⟩

/-- The bytes of a number, from the highest one on. -/
def byt (n i : Nat) : Nat := match i with
  | 0 => n / 16777216
  | 1 => n / 65536 % 256
  | 2 => n / 256 % 256
  | _ => n % 256

theorem byt_lt (n i : Nat) (hn : n ≤ 4294967295) : byt n i < 256 := by
  unfold byt
  split <;> omega

theorem byteAt_any (n : Nat) (hn : n ≤ 4294967295) (i : Nat) (hi : i < 4) (w : World) : Calls Tryz.prog 146 #[.int .i64 n, .int .i64 i] w fun e w' => e = .returned (.int .i64 (byt n i)) ∧ w = w' := by
  have e0 : bits .and .i64 ((n : Int) / 16777216) 255 = ((n / 16777216 : Nat) : Int) := by rw [i64_and255]; omega
  have e1 : bits .and .i64 ((n : Int) / 65536) 255 = ((n / 65536 % 256 : Nat) : Int) := by rw [i64_and255]; omega
  have e2 : bits .and .i64 ((n : Int) / 256) 255 = ((n / 256 % 256 : Nat) : Int) := by rw [i64_and255]; omega
  have e3 : bits .and .i64 (n : Int) 255 = ((n % 256 : Nat) : Int) := by rw [i64_and255]; omega
  have E0 := Lib.hid e0
  have E1 := Lib.hid e1
  have E2 := Lib.hid e2
  have E3 := Lib.hid e3
  clear e0 e1 e2 e3
  obtain rfl | rfl | rfl | rfl : i = 0 ∨ i = 1 ∨ i = 2 ∨ i = 3 := by omega
  · go_enter Tryz.func146, Tryz.ntmps146
    go_wp2
    go_ret
    exact ⟨congrArg (fun x => Ending.returned (Value.int .i64 x)) E0.out, rfl⟩
  · go_enter Tryz.func146, Tryz.ntmps146
    go_wp2
    go_ret
    exact ⟨congrArg (fun x => Ending.returned (Value.int .i64 x)) E1.out, rfl⟩
  · go_enter Tryz.func146, Tryz.ntmps146
    go_wp2
    go_ret
    exact ⟨congrArg (fun x => Ending.returned (Value.int .i64 x)) E2.out, rfl⟩
  · go_enter Tryz.func146, Tryz.ntmps146
    go_wp2
    go_ret
    exact ⟨congrArg (fun x => Ending.returned (Value.int .i64 x)) E3.out, rfl⟩

theorem last_at (s : ByteArray) (hs : s.size ≤ 1000000) (k : Int) (hk : Lib.lastIndex s.data.toList [46] = k) (w : World) :
    Calls Tryz.prog 154 #[.string s, .string ⟨#[46]⟩] w fun e w' => e = .returned (.int .i64 k) ∧ w = w' := by
  subst hk
  exact (Tryz.strings_LastIndex s ⟨#[46]⟩ (by omega) w).mono fun e w' h => ⟨h.1, h.2.symm⟩

theorem plain_at (s : ByteArray) (hs : s.size ≤ 1000000) (b : Bool) (hb : Deci.plainB s.data.toList = b) (w : World) :
    Calls Tryz.prog 180 #[.string s] w fun e w' => e = .returned (.bool b) ∧ w = w' := by
  subst hb
  exact Deci.plain_any s (by unfold maxLen; omega) w

theorem looks_at (s : ByteArray) (hs : s.size ≤ 1000000) (b : Bool) (hb : lookB s.data.toList = b) (w : World) : Calls Tryz.prog 177 #[.string s] w fun e w' => e = .returned (.bool b) ∧ w = w' := by
  rcases last_dot s.data.toList with ⟨h, hn⟩ | ⟨k, h, hk, hd, hn⟩
  · have hc := last_at s hs _ h w
    have hp := plain_at s hs b (by rw [← hb]; unfold lookB; rw [aft_none _ hn]) w
    clear h hn hb
    go_enter Tryz.func177, Tryz.ntmps177
    go_wp2_with (first | (go_at_call 154; refine hc.mono ?_; rintro e w' ⟨rfl, rfl⟩) | (go_at_call 180; refine hp.mono ?_; rintro e w' ⟨rfl, rfl⟩))
    go_ret
    exact ⟨rfl, rfl⟩
  · have hk' : k < s.size := hk
    have hc := last_at s hs _ h w
    have hp := plain_at (s.extract (k + 1) s.size) (by simp; omega) b (by rw [← hb]; unfold lookB; rw [aft_at _ k hd hn, Lib.extract_to_end]) w
    clear h hn hd hk hb
    go_enter Tryz.func177, Tryz.ntmps177
    go_wp2_with (first | (go_at_call 154; refine hc.mono ?_; rintro e w' ⟨rfl, rfl⟩) | (go_at_call 180; refine hp.mono ?_; rintro e w' ⟨rfl, rfl⟩))
    go_ret
    exact ⟨rfl, rfl⟩




/-- Block g holds the texts l, and they may be written. -/
def HeldS (W : World) (g : Nat) (l : List ByteArray) : Prop := ∀ j (h : j < l.length), W.cell? ⟨g, j, none⟩ = some (.string l[j]) ∧ W.frozen? ⟨g, j, none⟩ = false

theorem heldS_set {W : World} {g : Nat} {l : List ByteArray} (h : HeldS W g l) (k : Nat) (hk : k < l.length) (x : ByteArray) : HeldS (W.setCell ⟨g, k, none⟩ (.string x)) g (l.set k x) := by
  intro j hj
  have hj' : j < l.length := by simpa using hj
  refine ⟨?_, by rw [World.frozen?_setCell]; exact (h j hj').2⟩
  by_cases e : j = k
  · subst e
    rw [World.cell?_setCell_same (h := (h j hj').1)]
    simp
  · rw [World.cell?_setCell_other (h := fun h => e (by cases h; rfl)), (h j hj').1]
    rw [List.getElem_set_ne (by omega)]

theorem heldS_below {W W' : World} {g : Nat} {l : List ByteArray} (h : HeldS W g l) {B : Nat} (hB : Below B W W') (hg : g < B) : HeldS W' g l :=
  fun j hj => ⟨(hB.cell (p := ⟨g, j, none⟩) hg).trans (h j hj).1, (hB.frozen (p := ⟨g, j, none⟩) hg).trans (h j hj).2⟩

/-- A byte's text. -/
def sh (n i : Nat) : ByteArray := ⟨(Deci.showN (byt n i)).toArray⟩

/-- The first k are told. -/
def row4 (n k : Nat) : List ByteArray := (List.range 4).map fun j => if j < k then sh n j else ⟨#[]⟩

theorem row4_len (n k : Nat) : (row4 n k).length = 4 := by simp [row4]

theorem row4_next (n k : Nat) (h : k < 4) (h' : k < (row4 n k).length) : (row4 n k)[k] = ⟨#[]⟩ := by simp [row4]

theorem row4_set (n k : Nat) (h : k < 4) : (row4 n k).set k (sh n k) = row4 n (k + 1) := by
  obtain rfl | rfl | rfl | rfl : k = 0 ∨ k = 1 ∨ k = 2 ∨ k = 3 := by omega
  all_goals simp [row4, List.range, List.range.loop]

theorem row4_all (n : Nat) : row4 n 4 = [sh n 0, sh n 1, sh n 2, sh n 3] := by simp [row4, List.range, List.range.loop]

theorem row4_new (w : World) (n : Nat) : HeldS (w.alloc (.cells #[.string ⟨#[]⟩, .string ⟨#[]⟩, .string ⟨#[]⟩, .string ⟨#[]⟩] 137)) w.heap.size (row4 n 0) := by
  intro j hj
  rw [row4_len] at hj
  rw [World.cell?_alloc_at _ _ _ _ rfl, World.frozen?_alloc_at _ _ _ _ rfl]
  obtain rfl | rfl | rfl | rfl : j = 0 ∨ j = 1 ∨ j = 2 ∨ j = 3 := by omega
  all_goals simp [row4]

theorem show_at (n : Nat) (hn : n ≤ 9223372036854775807) (x : ByteArray) (hx : (⟨(Deci.showN n).toArray⟩ : ByteArray) = x) (w : World) :
    Calls Tryz.prog 91 #[.int .i64 n] w fun e W' => e = .returned (.string x) ∧ Below w.heap.size w W' := by
  subst hx
  have := Deci.show_calls (n : Int) (by omega) (by omega) w
  rw [Deci.showI_nonneg (by omega), show ((n : Int)).toNat = n by omega] at this
  exact this

theorem join_at (n g : Nat) (hn : n ≤ 4294967295) (w : World) (hg : g < w.heap.size) (h : HeldS w g (row4 n 4)) :
    Calls Tryz.prog 147 #[.slice (some ⟨g, 0, none⟩) 4 4, .string ⟨#[46]⟩] w fun e W' => e = .returned (.string ⟨(show4 n).toArray⟩) ∧ Below w.heap.size w W' := by
  have e : Lib.join ((row4 n 4).map (·.data.toList)) (⟨#[46]⟩ : ByteArray).data.toList = show4 n := by
    rw [row4_all]
    exact join_four _ _ _ _
  have hl := (show4_len n hn).2
  have := Tryz.strings_Join g 0 4 (row4 n 4) ⟨#[46]⟩ w (fun j x hj => by
    obtain ⟨hlt, ex⟩ := List.getElem?_eq_some_iff.1 hj
    rw [Nat.zero_add, (h j hlt).1, ex]) hg (by rw [row4_len]; omega) (by rw [row4_len]; omega) (by rw [e]; omega)
  rw [e, row4_len] at this
  exact this

set_option maxRecDepth 100000 in
set_option maxHeartbeats 2000000 in
theorem showIn (n : Nat) (hn : n ≤ 4294967295) (w : World) :
    Calls Tryz.prog 115 #[.int .i64 n] w fun e W' => e = .returned (.string ⟨(show4 n).toArray⟩) ∧ Below w.heap.size w W' := by
  have hf := fits_any n w
  have ef : fitsB (n : Int) = true := by unfold fitsB; simp; omega
  rw [ef] at hf
  clear ef
  have HN := Lib.hid hn
  clear hn
  go_enter Tryz.func115, Tryz.ntmps115
  go_wp2_with (go_at_call 145; refine hf.mono ?_; rintro e w' ⟨rfl, rfl⟩)
  have hB0 : Below w.heap.size w (w.alloc (.cells #[.string ⟨#[]⟩, .string ⟨#[]⟩, .string ⟨#[]⟩, .string ⟨#[]⟩] 137)) := (Below.refl _ w).alloc (Nat.le_refl _) _
  have hH0 := row4_new w n
  have hg0 : w.heap.size < (w.alloc (.cells #[.string ⟨#[]⟩, .string ⟨#[]⟩, .string ⟨#[]⟩, .string ⟨#[]⟩] 137)).heap.size := by simp
  go_loopw [4, 8] (fun _ i wr => ∃ k : Nat, k ≤ 4 ∧ i = .int .i64 k ∧ HeldS wr w.heap.size (row4 n k) ∧ w.heap.size < wr.heap.size ∧ Below w.heap.size w wr) (fun _ i _ => 4 - (intOf i).toNat)
  case atStart => exact ⟨0, Nat.zero_le _, rfl, hH0, hg0, hB0⟩
  case round =>
    clear hH0 hB0 hg0
    obtain ⟨k, hk, rfl, hH, hg, hw⟩ := hrel
    have HH := Lib.hid hH
    have HG := Lib.hid hg
    clear hH hg
    by_cases hlt : k < 4
    · have t1 : (k : Int) < 4 := by omega
      have hb := byteAt_any n HN.out k hlt wr
      have hs := show_at (byt n k) (by have := byt_lt n k HN.out; omega) (sh n k) rfl wr
      have hk4 := Lib.hid (show k < (row4 n k).length by rw [row4_len]; exact hlt)
      go_wp2_with (first | (go_at_call 146; refine hb.mono ?_; rintro e w' ⟨rfl, rfl⟩) | (go_at_call 91; refine hs.mono ?_; rintro e w2 ⟨rfl, hB2⟩; obtain ⟨hc2, hf2⟩ := heldS_below HH.out hB2 HG.out k hk4.out))
      go_roundw
      case rel =>
        refine ⟨k + 1, by omega, by go_num, ?_, ?_, (hw.trans (hB2.mono hw.size)).setCell (p := ⟨w.heap.size, k, none⟩) (Nat.le_refl _) _⟩
        · rw [← row4_set n k hlt]
          exact heldS_set (heldS_below HH.out hB2 HG.out) k hk4.out (sh n k)
        · have h1 := HG.out
          have h2 := hB2.size
          simp [World.setCell]
          omega
      case measure => simp [intOf]; omega
    · obtain rfl : k = 4 := by omega
      have hj := join_at n w.heap.size HN.out wr HG.out HH.out
      go_wp2_with (go_at_call 147; refine hj.mono ?_; rintro e w' ⟨rfl, hB2⟩)
      go_ret
      exact ⟨rfl, hw.trans (hB2.mono hw.size)⟩

set_option maxHeartbeats 400000 in
theorem showOut (n : Int) (h : fitsB n = false) (w : World) :
    Calls Tryz.prog 115 #[.int .i64 n] w fun e W' => e = .returned (.string ⟨#[]⟩) ∧ Below w.heap.size w W' := by
  have hf := fits_any n w
  rw [h] at hf
  clear h
  go_enter Tryz.func115, Tryz.ntmps115
  go_wp2_with (go_at_call 145; refine hf.mono ?_; rintro e w' ⟨rfl, rfl⟩)
  go_ret
  exact ⟨rfl, Below.refl _ _⟩

/-- Show, of any number. -/
theorem showF_at (n : Int) (x : ByteArray) (hx : (⟨(showF n).toArray⟩ : ByteArray) = x) (w : World) :
    Calls Tryz.prog 115 #[.int .i64 n] w fun e W' => e = .returned (.string x) ∧ Below w.heap.size w W' := by
  subst hx
  unfold showF
  cases h : fitsB n
  · exact showOut n h w
  · obtain ⟨h0, h1⟩ := fitsB_true h
    obtain ⟨k, rfl⟩ : ∃ k : Nat, n = (k : Int) := ⟨n.toNat, by omega⟩
    exact showIn k (by omega) w




/-- Box b holds a slice of the texts l, that lie in block g. -/
structure Cut (W : World) (g b : Nat) (v : Value) (l : List ByteArray) : Prop where
  lt : g < W.heap.size
  ltb : b < W.heap.size
  box : W.cell? ⟨b, 0, none⟩ = some v
  at_ : ∀ j (h : j < l.length), W.cell? ⟨g, j, none⟩ = some (.string l[j])

theorem Cut.below {W W' : World} {g b : Nat} {v : Value} {l : List ByteArray} (h : Cut W g b v l) {B : Nat} (hB : Below B W W') (hg : g < B) (hb : b < B) : Cut W' g b v l :=
  ⟨Nat.lt_of_lt_of_le h.lt hB.size, Nat.lt_of_lt_of_le h.ltb hB.size, (hB.cell (p := ⟨b, 0, none⟩) hb).trans h.box, fun j hj => (hB.cell (p := ⟨g, j, none⟩) hg).trans (h.at_ j hj)⟩

theorem Cut.later {W W' : World} {g b : Nat} {v : Value} {l : List ByteArray} (h : Cut W g b v l) (hB : Below W.heap.size W W') : Cut W' g b v l := h.below hB h.lt h.ltb

theorem Cut.drew {W : World} {g b : Nat} {v : Value} {l : List ByteArray} (h : Cut W g b v l) : Cut W.drew g b v l := ⟨h.lt, h.ltb, h.box, h.at_⟩

set_option maxRecDepth 100000 in
set_option maxHeartbeats 2000000 in
theorem shows_at (g b cap : Nat) (l : List ByteArray) (h4 : l.length = 4) (W : World) (hc : Cut W g b (.slice (some ⟨g, 0, none⟩) 4 cap) l) (k : Nat) (hk : k < 4) (p : ByteArray) (hp : ∀ h : k < l.length, l[k] = p) (v : Nat) (hv : v ≤ 255) (sx : ByteArray) (hsx : (⟨(Deci.showN v).toArray⟩ : ByteArray) = sx) (x : Bool) (hx : (p.toList == sx.toList) = x) :
    Calls Tryz.prog 200 #[.int .i64 k, .int .i64 v, .pointer (some ⟨b, 0, none⟩)] W fun e W' => e = .returned (.bool x) ∧ Below W.heap.size W W' := by
  have HC := Lib.hid hc
  have hbox := hc.box
  have hcell := hc.at_ k (by omega)
  rw [hp (by omega)] at hcell
  have HP := Lib.hid hp
  have HS := Lib.hid hsx
  have HV := Lib.hid hv
  have H4 := Lib.hid h4
  have t1 : (k : Int) < 4 := by omega
  clear hc hp hsx hv h4
  go_enter Tryz.func200, Tryz.ntmps200
  go_wp2_with fail
  go_region_with (go_at_call 91; refine (show_at v (by have := HV.out; omega) sx HS.out _).mono ?_; rintro e w2 ⟨rfl, hB2⟩; have hbox2 := (HC.out.drew.later hB2).box; have hcell2 := ((HC.out.drew.later hB2).at_ k (by have := H4.out; omega)).trans (congrArg (fun z => some (Value.string z)) (HP.out (by have := H4.out; omega))))
  all_goals
    go_wp2
    go_ret
    exact ⟨rfl, (Below.refl W.heap.size W).drew.trans hB2⟩

/-- The parts of a text, at most five. -/
def pieces (s : ByteArray) : List ByteArray := Lib.splitB ⟨#[46]⟩ 0 (min 5 (s.size + 1) - 1) s

theorem pieces_cuts (s : ByteArray) : (pieces s).map (·.data.toList) = cuts s.data.toList := Lib.splitB_data _ _ _ _

theorem split_at (s : ByteArray) (hs : s.size ≤ 1000000) (m : Int) (w : World) (hm : w.cell? ⟨0, 0, none⟩ = some (.int .i64 m)) :
    Calls Tryz.prog 199 #[.string s, .string ⟨#[46]⟩, .int .i64 5] w fun e w' => e = .returned (.slice (some ⟨w.heap.size, 0, none⟩) (pieces s).length (min 5 (s.size + 1))) ∧ w.alloc (.cells (Lib.cellsOf (pieces s) (min 5 (s.size + 1))) 9) = w' :=
  (Tryz.strings_SplitN s ⟨#[46]⟩ 5 m w (by omega) hm (by decide) (by decide) (by decide)).mono fun e w' h => ⟨h.1, h.2.symm⟩

theorem cells_at (l : List ByteArray) (N : Nat) (j : Nat) (h : j < l.length) : (Lib.cellsOf l N)[j]? = some (.string l[j]) := by
  unfold Lib.cellsOf
  rw [List.getElem?_toArray, List.getElem?_append_left (by simpa using h), List.getElem?_map, List.getElem?_eq_getElem h]
  rfl

theorem cut_new (w : World) (C : Array Value) (l : List ByteArray) (hC : ∀ j (h : j < l.length), C[j]? = some (.string l[j])) (v : Value) :
    Cut ((w.alloc (.cells C 9)).alloc (.cells #[v] 25)) w.heap.size (w.heap.size + 1) v l := by
  refine ⟨by simp; omega, by simp, ?_, fun j hj => ?_⟩
  · rw [World.cell?_alloc_at _ _ _ _ (by simp)]
    rfl
  · rw [World.cell?_alloc_past _ _ _ (by simp), World.cell?_alloc_at _ _ _ _ rfl]
    exact hC j hj

theorem read_at (p : ByteArray) (hs : p.size ≤ 1000000) (x : Int) (b : Bool) (hx : Deci.readI p.data.toList 255 = x) (hb : Deci.readB p.data.toList 255 = b) (w : World) :
    Calls Tryz.prog 157 #[.string p, .int .i64 255] w fun e W' => e = .returned (.tuple #[.int .i64 x, .bool b]) ∧ Below w.heap.size w W' := by
  subst hx; subst hb
  exact Deci.read_calls p (by unfold maxLen; omega) 255 (by omega) w

def acc (l : List (List UInt8)) : Nat := l.foldl (fun n p => n * 256 + Deci.valN p) 0

theorem acc_snoc (l : List (List UInt8)) (p : List UInt8) : acc (l ++ [p]) = acc l * 256 + Deci.valN p := by simp [acc]

theorem ok4_all (l : List (List UInt8)) : ok4 l = (decide (l.length = 4) && l.all okB) := by
  unfold ok4
  split
  · simp
  · rename_i h
    by_cases h4 : l.length = 4
    · match l, h4 with
      | [a, b, c, d], _ => exact absurd rfl (h a b c d)
    · simp [h4]

theorem val4_acc (l : List (List UInt8)) (h4 : l.length = 4) : val4 l = acc l := by
  match l, h4 with
  | [a, b, c, d], _ => simp [val4, num4, acc]

set_option maxRecDepth 100000 in
set_option maxHeartbeats 2000000 in
theorem parseShort (s : ByteArray) (hs : s.size ≤ 1000000) (h4 : (((pieces s).length : Int) == 4) = false) (m : Int) (w : World) (hm : w.cell? ⟨0, 0, none⟩ = some (.int .i64 m)) :
    Calls Tryz.prog 178 #[.string s] w fun e W' => e = .returned (.tuple #[.int .i64 0, .bool false]) ∧ Below w.heap.size w W' := by
  have hsp := split_at s hs m w hm
  generalize Lib.cellsOf (pieces s) (min 5 (s.size + 1)) = C at hsp
  generalize (min 5 (s.size + 1)) = N at hsp
  generalize (pieces s).length = L at hsp h4
  clear hs hm
  go_enter Tryz.func178, Tryz.ntmps178
  go_wp2_with (go_at_call 199; refine hsp.mono ?_; rintro e w' ⟨rfl, rfl⟩)
  go_ret2
  exact ⟨rfl, ((Below.refl _ w).alloc (Nat.le_refl _) _).alloc (by simp) _⟩

theorem split_le (k : Nat) (l p : List UInt8) (h : p ∈ Lib.splitK [46] 0 k l) : p.length ≤ l.length := by
  induction k generalizing l with
  | zero => simp [Lib.splitK] at h; rw [h]; exact Nat.le_refl _
  | succ k ih =>
    rcases first_dot l with hn | ⟨a, r, rfl, hn⟩
    · rw [split_none _ _ hn] at h
      simp at h
      rw [h]; exact Nat.le_refl _
    · rw [split_dot _ _ _ hn, List.mem_cons] at h
      simp
      rcases h with rfl | h
      · omega
      · have := ih r h; omega

theorem piece_le (s p : ByteArray) (h : p ∈ pieces s) : p.size ≤ s.size := by
  have : p.data.toList ∈ cuts s.data.toList := by rw [← pieces_cuts]; exact List.mem_map_of_mem h
  exact split_le _ _ _ this

theorem acc_take (l : List (List UInt8)) (k : Nat) (h : k < l.length) : acc (l.take (k + 1)) = acc (l.take k) * 256 + Deci.valN l[k] := by
  rw [List.take_succ_eq_append_getElem h, acc_snoc]

theorem all_take (l : List (List UInt8)) (k : Nat) (h : k < l.length) : (l.take (k + 1)).all okB = ((l.take k).all okB && okB l[k]) := by
  rw [List.take_succ_eq_append_getElem h, List.all_append]
  simp

theorem readB_true (l : List UInt8) (h : Deci.readB l 255 = true) : Deci.readI l 255 = (Deci.valN l : Int) ∧ Deci.valN l ≤ 255 := by
  refine ⟨by unfold Deci.readI; rw [if_pos h], ?_⟩
  unfold Deci.readB at h
  rw [Bool.and_eq_true, decide_eq_true_iff] at h
  omega

theorem readB_false (l : List UInt8) (h : Deci.readB l 255 = false) : Deci.readI l 255 = 0 := by
  unfold Deci.readI
  rw [h]
  rfl

theorem par_all (l : List UInt8) (h4 : (cuts l).length = 4) : parB l = (cuts l).all okB := by
  unfold parB
  rw [ok4_all, h4]
  simp

theorem not_all {l : List (List UInt8)} (k : Nat) (h : k < l.length) (hn : okB l[k] = false) : l.all okB = false := by
  rw [List.all_eq_false]
  exact ⟨l[k], List.getElem_mem h, by rw [hn]; simp⟩

set_option maxRecDepth 100000 in
set_option maxHeartbeats 4000000 in
theorem parseLong (s : ByteArray) (hs : s.size ≤ 1000000) (h4 : (pieces s).length = 4) (m : Int) (w : World) (hm : w.cell? ⟨0, 0, none⟩ = some (.int .i64 m)) :
    Calls Tryz.prog 178 #[.string s] w fun e W' => e = .returned (.tuple #[.int .i64 (parI s.data.toList), .bool (parB s.data.toList)]) ∧ Below w.heap.size w W' := by
  have hsp := split_at s hs m w hm
  have hcut := cut_new w (Lib.cellsOf (pieces s) (min 5 (s.size + 1))) (pieces s) (fun j h => cells_at _ _ j h) (.slice (some ⟨w.heap.size, 0, none⟩) 4 (min 5 (s.size + 1)))
  have hpc := pieces_cuts s
  have hcl : (cuts s.data.toList).length = 4 := by rw [← hpc, List.length_map, h4]
  have HPar := Lib.hid (par_all _ hcl)
  have HVal := Lib.hid (val4_acc _ hcl)
  have HI := Lib.hid (show parI s.data.toList = if parB s.data.toList then (val4 (cuts s.data.toList) : Int) else 0 from rfl)
  have HLe := Lib.hid (fun (p : ByteArray) (h : p ∈ pieces s) => Nat.le_trans (piece_le s p h) hs)
  have HAt := Lib.hid (show ∀ k (h : k < (pieces s).length) (h' : k < (cuts s.data.toList).length), (cuts s.data.toList)[k] = (pieces s)[k].data.toList from fun k h h' => by simp only [← hpc, List.getElem_map])
  rw [h4] at hsp
  have H4 := Lib.hid h4
  have HC4 := Lib.hid hcl
  clear hpc hcl h4
  generalize cuts s.data.toList = cs at HPar HVal HI HAt HC4
  generalize parI s.data.toList = rI at HI
  generalize parB s.data.toList = rB at HI HPar
  generalize Lib.cellsOf (pieces s) (min 5 (s.size + 1)) = C at hsp hcut
  generalize (min 5 (s.size + 1)) = N at hsp hcut
  generalize pieces s = l at hcut H4 HAt HLe
  clear hs hm
  have hB0 : Below w.heap.size w ((w.alloc (.cells C 9)).alloc (.cells #[.slice (some ⟨w.heap.size, 0, none⟩) 4 N] 25)) := ((Below.refl _ w).alloc (Nat.le_refl _) _).alloc (by simp) _
  go_enter Tryz.func178, Tryz.ntmps178
  go_wp2_with (go_at_call 199; refine hsp.mono ?_; rintro e w' ⟨rfl, rfl⟩)
  clear hsp
  go_loopw [6, 7, 8, 9, 16] (fun n _ _ _ i wr => ∃ k a : Nat, k ≤ 4 ∧ i = .int .i64 k ∧ n = .int .i64 a ∧ Hid (a = acc (cs.take k) ∧ a < 256 ^ k ∧ (cs.take k).all okB = true) ∧ Hid (Cut wr w.heap.size (w.heap.size + 1) (.slice (some ⟨w.heap.size, 0, none⟩) 4 N) l) ∧ Below w.heap.size w wr) (fun _ _ _ _ i _ => 4 - (intOf i).toNat)
  case atStart => exact ⟨0, 0, Nat.zero_le _, rfl, rfl, Lib.hid ⟨rfl, by decide, rfl⟩, Lib.hid hcut, hB0⟩
  case round =>
    clear hcut hB0
    obtain ⟨k, a, hk, rfl, rfl, HA, HCut, hw⟩ := hrel
    by_cases hlt : k < 4
    · have t1 : (k : Int) < 4 := by omega
      have hkl : k < l.length := by have := H4.out; omega
      have hkc : k < cs.length := by have := HC4.out; omega
      obtain ⟨p, hp⟩ : ∃ p, l[k] = p := ⟨_, rfl⟩
      have hpe : cs[k] = p.data.toList := by rw [HAt.out k hkl hkc, hp]
      have hple : p.size ≤ 1000000 := HLe.out p (by rw [← hp]; exact List.getElem_mem hkl)
      have hbox := HCut.out.box
      have hcell := HCut.out.at_ k hkl
      rw [hp] at hcell
      have HP := Lib.hid (show ∀ h : k < l.length, l[k] = p from fun _ => hp)
      have HKC := Lib.hid hkc
      have HPE := Lib.hid (show ∀ h : k < cs.length, cs[k] = p.data.toList from fun _ => hpe)
      have HPL := Lib.hid hple
      clear hp hpe hple hkl hkc
      cases hb : Deci.readB p.data.toList 255
      · have hr := read_at p HPL.out 0 false (readB_false _ hb) hb wr
        have hno := Lib.hid (show rB = false by
          rw [HPar.out]
          refine not_all k HKC.out ?_
          rw [HPE.out]
          unfold okB
          rw [hb]
          rfl)
        clear hb
        go_wp2_with (go_at_call 157; refine hr.mono ?_; rintro e w2 ⟨rfl, hB2⟩)
        go_ret2
        refine ⟨?_, hw.trans (hB2.mono hw.size)⟩
        rw [HI.out, hno.out]
        rfl
      · obtain ⟨e1, e2⟩ := readB_true _ hb
        obtain ⟨v, hv⟩ : ∃ v, Deci.valN p.data.toList = v := ⟨_, rfl⟩
        rw [hv] at e1 e2
        have hr := read_at p HPL.out v true e1 hb wr
        have HV := Lib.hid hv
        have HV2 := Lib.hid e2
        have HB := Lib.hid hb
        obtain ⟨sx, hsx⟩ : ∃ sx : ByteArray, (⟨(Deci.showN v).toArray⟩ : ByteArray) = sx := ⟨_, rfl⟩
        have HSX := Lib.hid hsx
        have HOK := Lib.hid (show okB p.data.toList = (p.toList == sx.toList) by
          unfold okB
          rw [hb, hv, ← hsx, ByteArray.toList_eq, ByteArray.toList_eq]
          rfl)
        clear e1 e2 hv hsx hb
        cases hx : (p.toList == sx.toList)
        · have hno := Lib.hid (show rB = false by
            rw [HPar.out]
            refine not_all k HKC.out ?_
            rw [HPE.out, HOK.out, hx])
          go_wp2_with (first | (go_at_call 157; refine hr.mono ?_; rintro e w2 ⟨rfl, hB2⟩) | (go_at_call 200; refine (shows_at w.heap.size (w.heap.size + 1) N l H4.out _ (HCut.out.later hB2) k hlt p HP.out v HV2.out sx HSX.out false hx).mono ?_; rintro e w3 ⟨rfl, hB3⟩))
          go_ret2
          refine ⟨?_, (hw.trans (hB2.mono hw.size)).trans (hB3.mono (Nat.le_trans hw.size hB2.size))⟩
          rw [HI.out, hno.out]
          rfl
        · have ha : a ≤ 4294967295 := by
            have h1 := HA.out.2.1
            have h2 : 256 ^ k ≤ 256 ^ 3 := Nat.pow_le_pow_right (by omega) (by omega)
            omega
          have ha24 : a ≤ 16777215 := by
            have h1 := HA.out.2.1
            have h2 : 256 ^ k ≤ 256 ^ 3 := Nat.pow_le_pow_right (by omega) (by omega)
            omega
          have hor := i64_or8 a v ha (by have := HV2.out; omega)
          clear ha
          go_wp2_with (first | (go_at_call 157; refine hr.mono ?_; rintro e w2 ⟨rfl, hB2⟩) | (go_at_call 200; refine (shows_at w.heap.size (w.heap.size + 1) N l H4.out _ (HCut.out.later hB2) k hlt p HP.out v HV2.out sx HSX.out true hx).mono ?_; rintro e w3 ⟨rfl, hB3⟩))
          go_roundw
          case rel =>
            refine ⟨k + 1, a * 256 + v, by omega, by go_num, by go_num, Lib.hid ⟨?_, ?_, ?_⟩, Lib.hid ((HCut.out.later hB2).later hB3), (hw.trans (hB2.mono hw.size)).trans (hB3.mono (Nat.le_trans hw.size hB2.size))⟩
            · rw [acc_take cs k HKC.out, ← HA.out.1, HPE.out, HV.out]
            · have h1 := HA.out.2.1
              have h2 := HV2.out
              rw [Nat.pow_succ]
              omega
            · rw [all_take cs k HKC.out, HA.out.2.2, HPE.out, HOK.out, hx]
              rfl
          case measure => simp [intOf]; omega
    · obtain rfl : k = 4 := by omega
      go_wp2
      go_ret2
      refine ⟨?_, hw⟩
      obtain ⟨h1, _, h3⟩ := HA.out
      have ht : cs.take 4 = cs := List.take_of_length_le (by have := HC4.out; omega)
      rw [ht] at h1 h3
      rw [HI.out, HPar.out, h3, HVal.out, ← h1]
      rfl

/-- Parse, of any text. -/
theorem parse_at (s : ByteArray) (hs : s.size ≤ 1000000) (x : Int) (b : Bool) (hx : parI s.data.toList = x) (hb : parB s.data.toList = b) (m : Int) (w : World) (hm : w.cell? ⟨0, 0, none⟩ = some (.int .i64 m)) :
    Calls Tryz.prog 178 #[.string s] w fun e W' => e = .returned (.tuple #[.int .i64 x, .bool b]) ∧ Below w.heap.size w W' := by
  subst hx; subst hb
  by_cases h4 : (pieces s).length = 4
  · exact parseLong s hs h4 m w hm
  · have hb : parB s.data.toList = false := by
      have hl : (cuts s.data.toList).length ≠ 4 := by rw [← pieces_cuts, List.length_map]; exact h4
      unfold parB
      rw [ok4_all]
      simp [hl]
    rw [parI_none _ hb, hb]
    exact parseShort s hs (beq_false_of_ne (by omega)) m w hm




theorem text_of (s : ByteArray) : (⟨s.data.toList.toArray⟩ : ByteArray) = s := by cases s; rfl

theorem text_eq {s t : ByteArray} (h : s.data.toList = t.data.toList) : s = t := by rw [← text_of s, ← text_of t, h]

theorem refDeci_at (z : Int) (n : Nat) (hz : z = (n : Int)) (hn : n ≤ 9223372036854775807) (x : ByteArray) (hx : (⟨(Deci.showN n).toArray⟩ : ByteArray) = x) (w : World) :
    Calls Tryz.prog 49 #[.int .i64 z] w fun e W' => e = .returned (.string x) ∧ Below w.heap.size w W' := by
  subst hx; subst hz
  have := Deci.refShow_calls (n : Int) (by omega) (by omega) w
  rw [Deci.showI_nonneg (by omega), show ((n : Int)).toNat = n by omega] at this
  exact this

theorem txt_size (k : Nat) (x : ByteArray) (h : k < 1000) (hx : (⟨(Deci.showN k).toArray⟩ : ByteArray) = x) : x.size ≤ 3 := by
  subst hx
  exact Deci.showN_len_pow 2 k h

theorem text4 (a b c d : List UInt8) : (((((((⟨a.toArray⟩ : ByteArray) ++ ⟨#[46]⟩) ++ ⟨b.toArray⟩) ++ ⟨#[46]⟩) ++ ⟨c.toArray⟩) ++ ⟨#[46]⟩) ++ ⟨d.toArray⟩ : ByteArray) = ⟨(join4 a b c d).toArray⟩ := by
  apply text_eq
  simp [Deci.text_append, join4]

set_option maxRecDepth 100000 in
set_option maxHeartbeats 2000000 in
theorem refShowIn (n : Nat) (hn : n ≤ 4294967295) (w : World) :
    Calls Tryz.prog 75 #[.int .i64 n] w fun e W' => e = .returned (.string ⟨(show4 n).toArray⟩) ∧ Below w.heap.size w W' := by
  have b0 : decide ((n : Int) < 0) = false := decide_eq_false (by omega)
  have b1 : decide ((4294967295 : Int) < n) = false := decide_eq_false (by omega)
  obtain ⟨t0, h0⟩ : ∃ x : ByteArray, (⟨(Deci.showN (n / 16777216)).toArray⟩ : ByteArray) = x := ⟨_, rfl⟩
  obtain ⟨t1, h1⟩ : ∃ x : ByteArray, (⟨(Deci.showN (n / 65536 % 256)).toArray⟩ : ByteArray) = x := ⟨_, rfl⟩
  obtain ⟨t2, h2⟩ : ∃ x : ByteArray, (⟨(Deci.showN (n / 256 % 256)).toArray⟩ : ByteArray) = x := ⟨_, rfl⟩
  obtain ⟨t3, h3⟩ : ∃ x : ByteArray, (⟨(Deci.showN (n % 256)).toArray⟩ : ByteArray) = x := ⟨_, rfl⟩
  have s0 := txt_size _ _ (by omega) h0
  have s1 := txt_size _ _ (by omega) h1
  have s2 := txt_size _ _ (by omega) h2
  have s3 := txt_size _ _ (by omega) h3
  have HE := Lib.hid (show (⟨(show4 n).toArray⟩ : ByteArray) = (((((t0 ++ ⟨#[46]⟩) ++ t1) ++ ⟨#[46]⟩) ++ t2) ++ ⟨#[46]⟩) ++ t3 by rw [← h0, ← h1, ← h2, ← h3, text4]; rfl)
  have H0 := Lib.hid h0
  have H1 := Lib.hid h1
  have H2 := Lib.hid h2
  have H3 := Lib.hid h3
  have HN := Lib.hid hn
  clear h0 h1 h2 h3
  go_enter Tryz.func75, Tryz.ntmps75
  go_wp2_with fail
  refine (refDeci_at _ (n / 16777216) (by omega) (by have := HN.out; omega) t0 H0.out _).mono ?_
  rintro e w1 ⟨rfl, hB1⟩
  go_wp2_with fail
  refine (refDeci_at _ (n / 65536 % 256) (by omega) (by have := HN.out; omega) t1 H1.out _).mono ?_
  rintro e w2 ⟨rfl, hB2⟩
  go_wp2_with fail
  refine (refDeci_at _ (n / 256 % 256) (by omega) (by have := HN.out; omega) t2 H2.out _).mono ?_
  rintro e w3 ⟨rfl, hB3⟩
  go_wp2_with fail
  refine (refDeci_at _ (n % 256) (by omega) (by have := HN.out; omega) t3 H3.out _).mono ?_
  rintro e w4 ⟨rfl, hB4⟩
  have hB := Lib.hid (Deci.below4 hB1 hB2 hB3 hB4)
  clear hB1 hB2 hB3 hB4
  go_wp2
  go_ret
  refine ⟨?_, hB.out⟩
  rw [HE.out]
  rfl

set_option maxHeartbeats 400000 in
theorem refShowOut (n : Int) (h : fitsB n = false) (w : World) :
    Calls Tryz.prog 75 #[.int .i64 n] w fun e W' => e = .returned (.string ⟨#[]⟩) ∧ Below w.heap.size w W' := by
  have hb : decide (n < 0) = true ∨ (decide (n < 0) = false ∧ decide ((4294967295 : Int) < n) = true) := by
    have := fitsB_false h
    simp
    omega
  clear h
  rcases hb with b0 | ⟨b0, b1⟩
  all_goals
    go_enter Tryz.func75, Tryz.ntmps75
    go_wp2
    go_ret
    exact ⟨rfl, Below.refl _ _⟩

/-- The document's Show, of any number. -/
theorem refShowF_at (n : Int) (x : ByteArray) (hx : (⟨(showF n).toArray⟩ : ByteArray) = x) (w : World) :
    Calls Tryz.prog 75 #[.int .i64 n] w fun e W' => e = .returned (.string x) ∧ Below w.heap.size w W' := by
  subst hx
  unfold showF
  cases h : fitsB n
  · exact refShowOut n h w
  · obtain ⟨h0, h1⟩ := fitsB_true h
    obtain ⟨k, rfl⟩ : ∃ k : Nat, n = (k : Int) := ⟨n.toNat, by omega⟩
    exact refShowIn k (by omega) w

/-! ### Looks -/

theorem take_snoc (s : ByteArray) (k : Nat) (h : k < s.size) : s.data.toList.take (k + 1) = s.data.toList.take k ++ [s[k]] := by
  rw [List.take_succ_eq_append_getElem (l := s.data.toList) (i := k) h]; rfl

theorem extract_end (s : ByteArray) (k : Nat) : (s.extract k s.size).data.toList = s.data.toList.drop k := Lib.extract_to_end s k

theorem aft_snoc_dot (l : List UInt8) : aft (l ++ [46]) = [] := aft_dot l [] (by simp)

theorem aft_snoc (l : List UInt8) (c : UInt8) (h : c ≠ 46) : aft (l ++ [c]) = aft l ++ [c] := by
  by_cases hd : (46 : UInt8) ∈ l
  · obtain ⟨a, b, rfl, hb⟩ : ∃ a b, l = a ++ 46 :: b ∧ (46 : UInt8) ∉ b := by
      rcases last_dot l with ⟨_, hn⟩ | ⟨k, _, hk, e, hn⟩
      · exact absurd hd hn
      · obtain ⟨hk', e'⟩ := List.getElem?_eq_some_iff.1 e
        exact ⟨l.take k, l.drop (k + 1), by conv => lhs; rw [← List.take_append_drop k l, List.drop_eq_getElem_cons hk', e'], hn⟩
    rw [aft_dot _ _ hb, List.append_assoc, List.cons_append, aft_dot]
    simp [hb, Ne.symm h]
  · rw [aft_none _ hd, aft_none]
    simp [hd, Ne.symm h]

theorem refPlain_at (s : ByteArray) (hs : s.size ≤ 1000000) (b : Bool) (hb : Deci.plainB s.data.toList = b) (w : World) :
    Calls Tryz.prog 161 #[.string s] w fun e w' => e = .returned (.bool b) ∧ w = w' := by
  subst hb
  exact Deci.refPlain_any s (by unfold maxLen; omega) w

set_option maxRecDepth 100000 in
set_option maxHeartbeats 1000000 in
theorem refLooks_at (s : ByteArray) (hs : s.size ≤ 1000000) (b : Bool) (hb : lookB s.data.toList = b) (w : World) :
    Calls Tryz.prog 133 #[.string s] w fun e w' => e = .returned (.bool b) ∧ w = w' := by
  have HB := Lib.hid hb
  clear hb
  have hsz : s.data.toList.length = s.size := rfl
  have HSZ := Lib.hid hsz
  clear hsz
  go_enter Tryz.func133, Tryz.ntmps133
  go_wp2
  go_loop [3, 4] (fun t i => ∃ (k j : Nat), k ≤ s.size ∧ i = .int .i64 k ∧ t = .string (s.extract j s.size) ∧ j ≤ k ∧ Hid (aft (s.data.toList.take k) = (s.data.toList.take k).drop j)) (fun _ i => s.size - (intOf i).toNat)
  case atStart => exact ⟨0, 0, Nat.zero_le _, rfl, by rw [ByteArray.extract_zero_size], Nat.le_refl _, Lib.hid rfl⟩
  case round =>
    obtain ⟨k, j, hk, rfl, rfl, hj, HA⟩ := hrel
    by_cases hlt : k < s.size
    · have t1 : (k : Int) < s.size := by omega
      have htk := Lib.hid (take_snoc s k hlt)
      have hlen := Lib.hid (show (s.data.toList.take k).length = k by rw [List.length_take, HSZ.out]; omega)
      by_cases hd : s[k] = 46
      · have b : ((s[k].toNat : Int) == 46) = true := by rw [hd]; rfl
        have HD := Lib.hid hd
        clear hd
        go_wp2
        go_round
        case rel => exact ⟨k + 1, k + 1, by omega, by go_num, rfl, Nat.le_refl _, Lib.hid (by rw [htk.out, HD.out, aft_snoc_dot, List.drop_eq_nil_of_le (by rw [List.length_append, hlen.out]; simp)])⟩
        case measure => simp [intOf]; omega
      · have b : ((s[k].toNat : Int) == 46) = false := beq_false_of_ne (fun e => hd (UInt8.toNat_inj.1 (by have : (46 : UInt8).toNat = 46 := rfl; omega)))
        have HD := Lib.hid hd
        clear hd
        go_wp2
        go_round
        case rel => exact ⟨k + 1, j, by omega, by go_num, rfl, by omega, Lib.hid (by rw [htk.out, aft_snoc _ _ HD.out, HA.out, List.drop_append_of_le_length (by rw [hlen.out]; exact hj)])⟩
        case measure => simp [intOf]; omega
    · obtain rfl : k = s.size := by omega
      have hp := refPlain_at (s.extract j s.size) (by simp; omega) b (by
        have h := HA.out
        rw [List.take_of_length_le (by rw [HSZ.out]; exact Nat.le_refl _)] at h
        rw [extract_end, ← h]
        exact HB.out) w
      go_wp2_with (go_at_call 161; refine hp.mono ?_; rintro e w' ⟨rfl, rfl⟩)
      go_ret
      exact ⟨rfl, rfl⟩




/-- What stands ahead of the first dot, and behind it. -/
def upto : List UInt8 → List UInt8
  | [] => []
  | c :: r => if c = 46 then [] else c :: upto r

def rest : List UInt8 → Option (List UInt8)
  | [] => none
  | c :: r => if c = 46 then some r else rest r

theorem upto_none (r : List UInt8) (h : (46 : UInt8) ∉ r) : upto r = r ∧ rest r = none := by
  induction r with
  | nil => exact ⟨rfl, rfl⟩
  | cons c r ih =>
    rw [List.mem_cons, not_or] at h
    obtain ⟨h1, h2⟩ := ih h.2
    unfold upto rest
    rw [if_neg (Ne.symm h.1), if_neg (Ne.symm h.1), h1, h2]
    exact ⟨rfl, rfl⟩

theorem upto_dot (a q : List UInt8) (h : (46 : UInt8) ∉ a) : upto (a ++ 46 :: q) = a ∧ rest (a ++ 46 :: q) = some q := by
  induction a with
  | nil => exact ⟨rfl, rfl⟩
  | cons c r ih =>
    rw [List.mem_cons, not_or] at h
    obtain ⟨h1, h2⟩ := ih h.2
    rw [List.cons_append]
    unfold upto rest
    rw [if_neg (Ne.symm h.1), if_neg (Ne.symm h.1), h1, h2]
    exact ⟨rfl, rfl⟩

/-- The number that the next k parts tell, behind n. -/
def ref4 : Nat → Option (List UInt8) → Nat → Option Nat
  | 0, _, n => some n
  | _ + 1, none, _ => none
  | k + 1, some r, n => if Deci.readB (upto r) 255 then ref4 k (rest r) (256 * n + Deci.valN (upto r)) else none

theorem read_show (n : Nat) (h : n ≤ 255) : Deci.readB (Deci.showN n) 255 = true := by
  unfold Deci.readB
  rw [Deci.showN_plain, Deci.valN_showN]
  simp
  omega

theorem ref4_show (n : Nat) (h : n ≤ 4294967295) : ref4 4 (some (show4 n)) 0 = some n := by
  unfold show4 join4
  have e0 := upto_dot (Deci.showN (n / 16777216)) (Deci.showN (n / 65536 % 256) ++ 46 :: (Deci.showN (n / 256 % 256) ++ 46 :: Deci.showN (n % 256))) (show_no_dot _)
  have e1 := upto_dot (Deci.showN (n / 65536 % 256)) (Deci.showN (n / 256 % 256) ++ 46 :: Deci.showN (n % 256)) (show_no_dot _)
  have e2 := upto_dot (Deci.showN (n / 256 % 256)) (Deci.showN (n % 256)) (show_no_dot _)
  have e3 := upto_none (Deci.showN (n % 256)) (show_no_dot _)
  unfold ref4
  rw [e0.1, e0.2, if_pos (read_show _ (by omega)), Deci.valN_showN]
  unfold ref4
  rw [e1.1, e1.2, if_pos (read_show _ (by omega)), Deci.valN_showN]
  unfold ref4
  rw [e2.1, e2.2, if_pos (read_show _ (by omega)), Deci.valN_showN]
  unfold ref4
  rw [e3.1, e3.2, if_pos (read_show _ (by omega)), Deci.valN_showN]
  unfold ref4
  congr 1
  omega

theorem ref4_none (l : List UInt8) (h : ref4 4 (some l) 0 = none) : parB l = false := by
  cases e : parB l
  · rfl
  · obtain ⟨n, hn, rfl, _⟩ := parB_some l e
    rw [ref4_show n hn] at h
    cases h

theorem ref4_other (l : List UInt8) (n : Nat) (h : ref4 4 (some l) 0 = some n) (hne : show4 n ≠ l) : parB l = false := by
  cases e : parB l
  · rfl
  · obtain ⟨m, hm, rfl, _⟩ := parB_some l e
    rw [ref4_show m hm] at h
    cases h
    exact absurd rfl hne

/-- Where the next part of s, from place i on, ends. -/
def endOf (s : ByteArray) (i : Nat) : Nat := i + (upto (s.data.toList.drop i)).length

def partOf (s : ByteArray) (i : Nat) : List UInt8 := upto (s.data.toList.drop i)

def tellOf (s : ByteArray) (i : Nat) : Int := if Deci.readB (partOf s i) 255 then (Deci.valN (partOf s i) : Int) else -1

theorem upto_pre (r : List UInt8) : ∃ q, r = upto r ++ q ∧ (q = [] ∨ ∃ q', q = 46 :: q') := by
  rcases first_dot r with h | ⟨a, q, rfl, h⟩
  · exact ⟨[], by rw [(upto_none r h).1]; simp, .inl rfl⟩
  · exact ⟨46 :: q, by rw [(upto_dot a q h).1], .inr ⟨q, rfl⟩⟩

theorem upto_no (r : List UInt8) : (46 : UInt8) ∉ upto r := by
  rcases first_dot r with h | ⟨a, q, rfl, h⟩
  · rw [(upto_none r h).1]; exact h
  · rw [(upto_dot a q h).1]; exact h

theorem end_le (s : ByteArray) (i : Nat) (hi : i ≤ s.size) : endOf s i ≤ s.size := by
  unfold endOf
  obtain ⟨q, h, _⟩ := upto_pre (s.data.toList.drop i)
  have h1 := congrArg List.length h
  rw [List.length_drop, List.length_append] at h1
  have h2 : s.data.toList.length = s.size := rfl
  omega

theorem byte_get? (s : ByteArray) (j : Nat) (h : j < s.size) : s.data.toList[j]? = some s[j] := by
  rw [List.getElem?_eq_getElem (show j < s.data.toList.length from h)]
  rfl

theorem at_no (s : ByteArray) (i j : Nat) (hij : i ≤ j) (hj : j < endOf s i) (hs : j < s.size) : s[j] ≠ 46 := by
  intro e
  obtain ⟨q, h, _⟩ := upto_pre (s.data.toList.drop i)
  have h1 : (s.data.toList.drop i)[j - i]? = some s[j] := by rw [List.getElem?_drop, show i + (j - i) = j by omega, byte_get? s j hs]
  rw [h, List.getElem?_append_left (by unfold endOf at hj; omega)] at h1
  exact upto_no _ (by rw [← e]; exact List.mem_of_getElem? h1)

theorem at_end (s : ByteArray) (i : Nat) (hi : i ≤ s.size) (hs : endOf s i < s.size) : s[endOf s i] = 46 := by
  obtain ⟨q, h, hq⟩ := upto_pre (s.data.toList.drop i)
  have h1 : (s.data.toList.drop i)[endOf s i - i]? = some s[endOf s i] := by rw [List.getElem?_drop, show i + (endOf s i - i) = endOf s i by unfold endOf; omega, byte_get? s _ hs]
  rw [h, List.getElem?_append_right (by unfold endOf; omega), show endOf s i - i - (upto (s.data.toList.drop i)).length = 0 by unfold endOf; omega] at h1
  rcases hq with rfl | ⟨q', rfl⟩
  · cases h1
  · simp at h1
    exact h1.symm

theorem part_at (s : ByteArray) (i : Nat) : (s.extract i (endOf s i)).data.toList = partOf s i := by
  rw [Lib.extract_data]
  obtain ⟨q, h, hq⟩ := upto_pre (s.data.toList.drop i)
  unfold endOf partOf
  rw [Nat.add_sub_cancel_left]
  conv => lhs; arg 2; rw [h]
  rw [List.take_left' rfl]

/-- What stands from place i on; none, if i lies behind the end. -/
def restAt (s : ByteArray) (i : Nat) : Option (List UInt8) := if i ≤ s.size then some (s.data.toList.drop i) else none

theorem rest_at (s : ByteArray) (i : Nat) (hi : i ≤ s.size) : rest (s.data.toList.drop i) = restAt s (endOf s i + 1) := by
  have hl : s.data.toList.length = s.size := rfl
  unfold restAt endOf
  rcases first_dot (s.data.toList.drop i) with h | ⟨a, q, e, h⟩
  · rw [(upto_none _ h).2, (upto_none _ h).1, if_neg (by rw [List.length_drop]; omega)]
  · have h1 := upto_dot a q h
    have h2 := congrArg List.length e
    rw [List.length_drop, List.length_append, List.length_cons] at h2
    rw [e, h1.1, h1.2, if_pos (by omega)]
    congr 1
    have h3 : s.data.toList.drop (i + a.length + 1) = (s.data.toList.drop i).drop (a.length + 1) := by rw [List.drop_drop]; congr 1
    rw [h3, e, List.drop_append, List.drop_eq_nil_of_le (by omega), show a.length + 1 - a.length = 1 by omega]
    rfl

theorem ref4_step (s : ByteArray) (i : Nat) (hi : i ≤ s.size) (k n : Nat) (h : Deci.readB (partOf s i) 255 = true) : ref4 (k + 1) (restAt s i) n = ref4 k (restAt s (endOf s i + 1)) (256 * n + Deci.valN (partOf s i)) := by
  rw [← rest_at s i hi]
  conv => lhs; unfold restAt
  rw [if_pos hi]
  conv => lhs; unfold ref4
  unfold partOf at h ⊢
  rw [if_pos h]

theorem ref4_stop (s : ByteArray) (i : Nat) (hi : i ≤ s.size) (k n : Nat) (h : Deci.readB (partOf s i) 255 = false) : ref4 (k + 1) (restAt s i) n = none := by
  unfold restAt
  rw [if_pos hi]
  unfold ref4
  unfold partOf at h
  rw [h]
  rfl

theorem ref4_past (s : ByteArray) (i : Nat) (hi : s.size < i) (k n : Nat) : ref4 (k + 1) (restAt s i) n = none := by
  unfold restAt
  rw [if_neg (by omega)]
  rfl




/-- internal/bytealg.MaxLen holds an int. -/
def MaxAt (m : Int) (w : World) : Prop := w.cell? ⟨0, 0, none⟩ = some (.int .i64 m)

theorem MaxAt.later {m : Int} {w u : World} (h : MaxAt m w) (hB : Below w.heap.size w u) : MaxAt m u := by
  unfold MaxAt at *
  exact (hB.cell (p := ⟨0, 0, none⟩) (World.block_lt_of_cell? _ _ h)).trans h

theorem show_lit (n : Nat) (c : UInt8) (h : n < 10) (hc : c.toNat = 48 + n) : Deci.showN n = [c] := by
  rw [Deci.showN_lt h, Deci.digC_eq n h c hc]

theorem show_127 : Deci.showN 127 = [49, 50, 55] := by
  rw [Deci.showN_ge (by omega), show 127 / 10 = 12 by rfl, show 127 % 10 = 7 by rfl, Deci.showN_ge (by omega), show 12 / 10 = 1 by rfl, show 12 % 10 = 2 by rfl, Deci.showN_lt (by omega),
    Deci.digC_eq 1 (by omega) 49 rfl, Deci.digC_eq 2 (by omega) 50 rfl, Deci.digC_eq 7 (by omega) 55 rfl]
  rfl

theorem show4_ex : show4 2130706433 = [49, 50, 55, 46, 48, 46, 48, 46, 49] := by
  unfold show4
  simp only [Nat.reduceDiv, Nat.reduceMod]
  rw [show_127, show_lit 0 48 (by omega) rfl, show_lit 1 49 (by omega) rfl]
  rfl

theorem par_ex : parB [49, 50, 55, 46, 48, 46, 48, 46, 49] = true ∧ parI [49, 50, 55, 46, 48, 46, 48, 46, 49] = 2130706433 := by
  rw [← show4_ex]
  exact ⟨parB_show _ (by omega), parI_show _ (by omega)⟩

theorem par_04 : parB [49, 46, 50, 46, 51, 46, 48, 52] = false := by
  have hc : cuts [49, 46, 50, 46, 51, 46, 48, 52] = [[49], [50], [51], [48, 52]] := cuts_four [49] [50] [51] [48, 52] (by decide) (by decide) (by decide) (by decide) (by decide)
  have h0 : okB [48, 52] = false := by
    cases e : okB [48, 52]
    · rfl
    · have := ((okB_iff _).1 e).2.2.2
      rw [show Deci.valN [48, 52] = 4 by decide, show_lit 4 52 (by omega) rfl] at this
      cases this
  unfold parB
  rw [hc]
  show (okB _ && (okB _ && (okB _ && okB _))) = false
  rw [h0]
  simp

theorem showF_ex : showF 2130706433 = [49, 50, 55, 46, 48, 46, 48, 46, 49] := by
  rw [← show4_ex]
  rfl

theorem ex_parse1 (m : Int) (w : World) (hm : MaxAt m w) : Calls Tryz.prog 178 #[.string ⟨#[49, 50, 55, 46, 48, 46, 48, 46, 49]⟩] w fun e W' => e = .returned (.tuple #[.int .i64 2130706433, .bool true]) ∧ Below w.heap.size w W' :=
  parse_at ⟨#[49, 50, 55, 46, 48, 46, 48, 46, 49]⟩ (by decide) _ _ par_ex.2 par_ex.1 m w hm

theorem ex_parse2 (m : Int) (w : World) (hm : MaxAt m w) : Calls Tryz.prog 178 #[.string ⟨#[49, 46, 50, 46, 51, 46, 48, 52]⟩] w fun e W' => e = .returned (.tuple #[.int .i64 0, .bool false]) ∧ Below w.heap.size w W' :=
  parse_at ⟨#[49, 46, 50, 46, 51, 46, 48, 52]⟩ (by decide) _ _ (parI_none _ par_04) par_04 m w hm

theorem ex_show (w : World) : Calls Tryz.prog 115 #[.int .i64 2130706433] w fun e W' => e = .returned (.string ⟨#[49, 50, 55, 46, 48, 46, 48, 46, 49]⟩) ∧ Below w.heap.size w W' :=
  showF_at 2130706433 _ (by rw [showF_ex]) w

theorem ex_looks1 (w : World) : Calls Tryz.prog 177 #[.string ⟨#[97, 46, 49]⟩] w fun e W' => e = .returned (.bool true) ∧ w = W' := looks_at ⟨#[97, 46, 49]⟩ (by decide) true (by decide +kernel) w

theorem ex_looks2 (w : World) : Calls Tryz.prog 177 #[.string ⟨#[49, 46, 97]⟩] w fun e W' => e = .returned (.bool false) ∧ w = W' := looks_at ⟨#[49, 46, 97]⟩ (by decide) false (by decide +kernel) w

end Go.Proofs.YtlkikfdbjpjpaaaGreatDoor.Four
