/-
  What is shown is parsed, what is parsed may be; the chapter's examples (awake).
-/
import Derived.Test.YtidmlhefdjpafaaDoorHShow
import Derived.Shelf.Abstract
namespace Go.Proofs.YtidmlhefdjpafaaDoor.Host
open Go.RowKit
open Six (arr RowAt zero8)
set_option linter.unusedSimpArgs false
set_option linter.unusedVariables false
theorem same_refl (h : H) : sameH h h = true := (same_iff h h).2 rfl
theorem brk_first (l : List UInt8) (h : brkB l = true) : ∃ r, l = 91 :: r := by
  obtain ⟨x, rfl⟩ := (brk_iff l).1 h
  exact ⟨_, rfl⟩
theorem brk_not (l : List UInt8) (h : (91 : UInt8) ∉ l) : brkB l = false := by
  cases e : brkB l
  · rfl
  · obtain ⟨r, rfl⟩ := brk_first l e
    exact absurd (by simp) h
theorem dom_no (l : List UInt8) (h : domB l = true) : (91 : UInt8) ∉ l := by
  intro hm
  have := (byte_not 91 (parts_all l ((dom_iff l).1 h).2.2.2 91 hm)).2.2.2.2.2.2.2.2.1
  exact this rfl
theorem digs_all : ∀ n : Fin 256, Deci.digB (UInt8.ofNat n.val) = true → 48 ≤ n.val ∧ n.val ≤ 57 := by decide +kernel
theorem digs_at (c : UInt8) (h : Deci.digB c = true) : 48 ≤ c.toNat ∧ c.toNat ≤ 57 := by
  have := digs_all ⟨c.toNat, c.toNat_lt⟩
  simp only [UInt8.ofNat_toNat] at this
  exact this h
/-- The bytes of a number's text. -/
theorem show4_bytes (n : Nat) (c : UInt8) (hc : c ∈ Four.show4 n) : (48 ≤ c.toNat ∧ c.toNat ≤ 57) ∨ c = 46 := by
  unfold Four.show4 Four.join4 at hc
  have hd : ∀ k, c ∈ Deci.showN k → (48 ≤ c.toNat ∧ c.toNat ≤ 57) ∨ c = 46 := fun k h => .inl (digs_at c (List.all_eq_true.1 (Deci.showN_all k) c h))
  simp only [List.mem_append, List.mem_cons] at hc
  rcases hc with h | h | h | h | h | h | h
  · exact hd _ h
  · exact .inr h
  · exact hd _ h
  · exact .inr h
  · exact hd _ h
  · exact .inr h
  · exact hd _ h
theorem show4_no (n : Nat) : (91 : UInt8) ∉ Four.show4 n := by
  intro h
  rcases show4_bytes n 91 h with ⟨_, h⟩ | h
  · exact absurd h (by decide)
  · exact absurd h (by decide)
theorem ba_of (s : ByteArray) (l : List UInt8) (h : s.data.toList = l) : (⟨l.toArray⟩ : ByteArray) = s := by
  apply ByteArray.ext
  rw [← h]
theorem ok_nil : okH [] = false := by decide +kernel
theorem par_no (l : List UInt8) (h : okH l = false) : parH l = none0 := by unfold parH; rw [h]; rfl
/-- The ways a host may be. -/
theorem may_ways (h : H) (hm : mayH h = true) : (h = ⟨1, h.s, 0, zero8⟩ ∧ domB h.s.data.toList = true ∧ showH h = h.s.data.toList) ∨ (∃ n : Nat, n ≤ 4294967295 ∧ h = ⟨2, ⟨#[]⟩, n, zero8⟩ ∧ showH h = Four.show4 n) ∨
    (h = ⟨3, ⟨#[]⟩, 0, h.p⟩ ∧ Six.mayP h.p = true ∧ showH h = 91 :: (Six.showS h.p ++ [93])) := by
  have hs : showH h = (if h.k = 1 then h.s.data.toList else if h.k = 2 then Four.showF h.n else 91 :: (Six.showS h.p ++ [93])) := by unfold showH; rw [if_pos hm]
  rcases what_cases h with ⟨h1, _⟩ | ⟨_, h0, h3, _⟩ | ⟨_, h0, h3, _⟩ | ⟨_, h0, h3, _⟩
  · rw [hm] at h1; cases h1
  · exact .inl ⟨h0, h3, by rw [hs, if_pos (show h.k = 1 by rw [h0])]⟩
  · obtain ⟨f1, f2⟩ := Four.fitsB_true h3
    obtain ⟨n, hn⟩ : ∃ n : Nat, h.n = (n : Int) := ⟨h.n.toNat, by omega⟩
    refine .inr (.inl ⟨n, by omega, by rw [← hn]; exact h0, ?_⟩)
    rw [hs, if_neg (show ¬ h.k = 1 by rw [h0]; show ¬ (2 : Int) = 1; decide), if_pos (show h.k = 2 by rw [h0])]
    unfold Four.showF
    rw [if_pos h3, hn]
    rfl
  · exact .inr (.inr ⟨h0, h3, by rw [hs, if_neg (show ¬ h.k = 1 by rw [h0]; show ¬ (3 : Int) = 1; decide), if_neg (show ¬ h.k = 2 by rw [h0]; show ¬ (3 : Int) = 2; decide)]⟩)
theorem ok_dom (l : List UInt8) (h : domB l = true) : okH l = true ∧ parH l = ⟨1, ⟨l.toArray⟩, 0, zero8⟩ := by
  obtain ⟨d1, d2, d3, d4⟩ := (dom_iff l).1 h
  have hb := brk_not l (dom_no l h)
  have ho : okH l = true := by unfold okH; rw [hb, d3, ← d2, h]; rfl
  exact ⟨ho, by unfold parH; rw [ho, hb, d3, ← d2]; rfl⟩
theorem ok_num (n : Nat) (h : n ≤ 4294967295) : okH (Four.show4 n) = true ∧ parH (Four.show4 n) = ⟨2, ⟨#[]⟩, n, zero8⟩ := by
  have hb := brk_not _ (show4_no n)
  have ho : okH (Four.show4 n) = true := by unfold okH; rw [hb, Four.look_show, Four.parB_show n h]; rfl
  exact ⟨ho, by unfold parH; rw [ho, hb, Four.look_show, Four.parI_show n h]; rfl⟩
theorem ok_six (x : List UInt8) : okH (91 :: (x ++ [93])) = Six.parB x ∧ parH (91 :: (x ++ [93])) = if Six.parB x then ⟨3, ⟨#[]⟩, 0, Six.parI x⟩ else none0 := by
  have hb := (brk_iff (91 :: (x ++ [93]))).2 ⟨x, rfl⟩
  have ho : okH (91 :: (x ++ [93])) = Six.parB x := by unfold okH; rw [if_pos hb, inner_of]
  refine ⟨ho, ?_⟩
  unfold parH
  rw [ho, if_pos hb, inner_of]
/-- What is shown is parsed. -/
theorem show_back (h : H) (h8 : h.p.length = 8) (hm : mayH h = true) : okH (showH h) = true ∧ parH (showH h) = h ∧ showH h ≠ [] ∧ (showH h).length ≤ 100 := by
  rcases may_ways h hm with ⟨h0, h3, e⟩ | ⟨n, hn, h0, e⟩ | ⟨h0, h3, e⟩
  · rw [e]
    obtain ⟨a, b⟩ := ok_dom _ h3
    exact ⟨a, by rw [b, ba_of h.s _ rfl]; exact h0.symm, dom_ne _ h3, ((dom_iff _).1 h3).1⟩
  · rw [e]
    obtain ⟨a, b⟩ := ok_num n hn
    have hl := Four.show4_len n hn
    exact ⟨a, by rw [b]; exact h0.symm, fun e => by rw [e] at hl; simp at hl, by omega⟩
  · rw [e]
    obtain ⟨a, b⟩ := ok_six (Six.showS h.p)
    obtain ⟨c, d⟩ := Six.par_show h.p h8 h3
    have hl := Six.show_len39 h.p h8 h3
    exact ⟨by rw [a, c], by rw [b, c, d]; exact h0.symm, by simp, by simp; omega⟩
theorem show_none (h : H) (hm : mayH h = false) : showH h = [] := by unfold showH; rw [hm]; rfl
theorem may1 (s : ByteArray) : mayH ⟨1, s, 0, zero8⟩ = domB s.data.toList := by
  show (sameH ⟨1, s, 0, zero8⟩ ⟨1, s, 0, zero8⟩ && domB s.data.toList) = _
  rw [same_refl]; rfl
theorem may2 (n : Int) : mayH ⟨2, ⟨#[]⟩, n, zero8⟩ = Four.fitsB n := by
  show (sameH ⟨2, ⟨#[]⟩, n, zero8⟩ ⟨2, ⟨#[]⟩, n, zero8⟩ && Four.fitsB n) = _
  rw [same_refl]; rfl
theorem may3 (p : List Int) : mayH ⟨3, ⟨#[]⟩, 0, p⟩ = Six.mayP p := by
  show (sameH ⟨3, ⟨#[]⟩, 0, p⟩ ⟨3, ⟨#[]⟩, 0, p⟩ && Six.mayP p) = _
  rw [same_refl]; rfl
/-- The ways a text is parsed. -/
theorem par_ways (l : List UInt8) (h : okH l = true) : (brkB l = true ∧ Six.parB (inner l) = true ∧ parH l = ⟨3, ⟨#[]⟩, 0, Six.parI (inner l)⟩) ∨ (brkB l = false ∧ Four.lookB l = true ∧ Four.parB l = true ∧ parH l = ⟨2, ⟨#[]⟩, Four.parI l, zero8⟩) ∨
    (brkB l = false ∧ Four.lookB l = false ∧ domB (Ascii.lower l) = true ∧ parH l = ⟨1, ⟨(Ascii.lower l).toArray⟩, 0, zero8⟩) := by
  have e : parH l = (if brkB l then ⟨3, ⟨#[]⟩, 0, Six.parI (inner l)⟩ else if Four.lookB l then ⟨2, ⟨#[]⟩, Four.parI l, zero8⟩ else ⟨1, ⟨(Ascii.lower l).toArray⟩, 0, zero8⟩) := by unfold parH; rw [if_pos h]
  unfold okH at h
  cases h1 : brkB l
  · rw [h1] at h e
    cases h2 : Four.lookB l
    · rw [h2] at h e
      exact .inr (.inr ⟨rfl, rfl, h, e⟩)
    · rw [h2] at h e
      exact .inr (.inl ⟨rfl, rfl, h, e⟩)
  · rw [h1] at h e
    exact .inl ⟨rfl, h, e⟩
/-- What is parsed may be. -/
theorem par_may (l : List UInt8) (h : okH l = true) : mayH (parH l) = true := by
  rcases par_ways l h with ⟨_, h2, e⟩ | ⟨_, _, h2, e⟩ | ⟨_, _, h2, e⟩
  · rw [e, may3]; exact (Six.par_may _ h2).2.1
  · obtain ⟨n, hn, _, hI⟩ := Four.parB_some l h2
    rw [e, hI, may2]
    unfold Four.fitsB
    rw [decide_eq_true (show (0 : Int) ≤ n by omega), decide_eq_true (show (n : Int) ≤ 4294967295 by omega)]
    rfl
  · rw [e, may1]; exact h2
theorem par_size (l : List UInt8) (n : Nat) (hl : l.length ≤ n) : (parH l).s.size ≤ n := by
  unfold parH
  split
  · split
    · exact Nat.zero_le _
    · split
      · exact Nat.zero_le _
      · show (Ascii.lower l).length ≤ n
        unfold Ascii.lower
        rw [List.length_map]; exact hl
  · exact Nat.zero_le _
/-! ### The chapter's examples -/
def exA : List UInt8 := [69, 88, 65, 77, 80, 76, 69, 46, 111, 114, 103]
def exa : List UInt8 := [101, 120, 97, 109, 112, 108, 101, 46, 111, 114, 103]
def exB : List UInt8 := [91, 48, 58, 48, 58, 58, 49, 93]
def exC : List UInt8 := [49, 46, 50, 46, 51]
def hA : H := ⟨1, ⟨#[101, 120, 97, 109, 112, 108, 101, 46, 111, 114, 103]⟩, 0, zero8⟩
def hBx : H := ⟨3, ⟨#[]⟩, 0, one8⟩
theorem exA_ok : okH exA = true ∧ parH exA = hA := by
  have h1 : okH exA = true := by decide +kernel
  refine ⟨h1, ?_⟩
  rcases par_ways exA h1 with ⟨h, _⟩ | ⟨_, h, _⟩ | ⟨_, _, _, e⟩
  · exact absurd h (by decide +kernel)
  · exact absurd h (by decide +kernel)
  · rw [e]; rfl
theorem exB_ok : okH exB = true ∧ parH exB = hBx := by
  have h1 : Six.parB [48, 58, 48, 58, 58, 49] = true := by decide +kernel
  have h2 : Six.parI [48, 58, 48, 58, 58, 49] = one8 := by decide +kernel
  obtain ⟨a, b⟩ := ok_six [48, 58, 48, 58, 58, 49]
  refine ⟨?_, ?_⟩
  · show okH (91 :: ([48, 58, 48, 58, 58, 49] ++ [93])) = true
    rw [a, h1]
  · show parH (91 :: ([48, 58, 48, 58, 58, 49] ++ [93])) = hBx
    rw [b, h1, h2]; rfl
theorem exC_no : okH exC = false := by decide +kernel
theorem hA_may : mayH hA = true := by
  have := par_may exA exA_ok.1
  rw [exA_ok.2] at this
  exact this
theorem hB_may : mayH hBx = true := by
  have := par_may exB exB_ok.1
  rw [exB_ok.2] at this
  exact this
theorem one_show : Six.showS one8 = [58, 58, 49] := by
  have h1 : Six.mayP one8 = true := by decide +kernel
  have h2 : Six.runP one8 = (0, 7) := by decide +kernel
  have h3 : Six.texts one8 = [[48], [48], [48], [48], [48], [48], [48], [49]] := by
    show [Six.hexN 0, Six.hexN 0, Six.hexN 0, Six.hexN 0, Six.hexN 0, Six.hexN 0, Six.hexN 0, Six.hexN 1] = _
    rw [Six.hexN_digit 0 (by omega), Six.hexN_digit 1 (by omega)]
    rfl
  unfold Six.showS Six.showIn
  rw [h1, h2, h3]
  rfl
theorem hB_show : showH hBx = [91, 58, 58, 49, 93] := by
  unfold showH
  rw [if_pos hB_may]
  show 91 :: (Six.showS one8 ++ [93]) = _
  rw [one_show]; rfl
theorem hB_local : localH hBx = true := by
  unfold localH
  rw [if_pos hB_may]
  rfl
theorem hA_local : localH hA = false := by
  unfold localH
  rw [if_pos hA_may]
  show ((exa == loc9) || Lib.hasSuffix exa (46 :: loc9)) = false
  decide +kernel
end Go.Proofs.YtidmlhefdjpafaaDoor.Host
