/-
  The document's reading of a domain's name.
-/
import Derived.Test.YtlkikfdbjpjpaaaGreatDoorURefA
import Derived.Test.YtlkikfdbjpjpaaaGreatDoorURefB
import Derived.Test.YtlkikfdbjpjpaaaGreatDoorURefC
import Derived.Test.YtlkikfdbjpjpaaaGreatDoorURefD
namespace Go.Proofs.YtlkikfdbjpjpaaaGreatDoor.Show
set_option linter.unusedSimpArgs false
set_option linter.unusedVariables false
set_option maxRecDepth 100000


open Go.RowKit Go.Shelf

open Url

set_option maxRecDepth 100000

/-! ## a domain's name, as the document reads it: byte by byte -/
def okN (c : UInt8) : Bool := Ascii.digitB (c.toNat : Int) || ((decide (97 ≤ c.toNat) && decide (c.toNat ≤ 122)) || (decide (c = 45) || decide (c = 95)))

def nm (p : Bool) : T → Bool
  | [] => !p
  | c :: r => if c = 46 then !p && nm true r else okN c && nm false r

theorem nm_dot (p : Bool) (r : T) : nm p (46 :: r) = (!p && nm true r) := by rw [nm, if_pos rfl]

theorem nm_byte (p : Bool) (c : UInt8) (r : T) (h : c ≠ 46) : nm p (c :: r) = (okN c && nm false r) := by rw [nm, if_neg h]

theorem nm_plain (l : T) (h : (46 : UInt8) ∉ l) : nm false l = l.all okN := by
  induction l with
  | nil => rfl
  | cons c r ih =>
    simp only [List.mem_cons, not_or] at h
    rw [nm_byte _ _ _ (fun e => h.1 e.symm), ih h.2]; rfl

theorem nm_start (l : T) (h : (46 : UInt8) ∉ l) : nm true l = (l.all okN && !l.isEmpty) := by
  cases l with
  | nil => rfl
  | cons c r =>
    simp only [List.mem_cons, not_or] at h
    rw [nm_byte _ _ _ (fun e => h.1 e.symm), nm_plain _ h.2]; simp

theorem nm_run (a r : T) (h : (46 : UInt8) ∉ a) : nm false (a ++ 46 :: r) = (a.all okN && nm true r) := by
  induction a with
  | nil => rw [List.nil_append, nm_dot]; rfl
  | cons c a ih =>
    simp only [List.mem_cons, not_or] at h
    rw [List.cons_append, nm_byte _ _ _ (fun e => h.1 e.symm), ih h.2, ← Bool.and_assoc]; rfl

theorem nm_part (a r : T) (h : (46 : UInt8) ∉ a) : nm true (a ++ 46 :: r) = ((a.all okN && !a.isEmpty) && nm true r) := by
  cases a with
  | nil => rw [List.nil_append, nm_dot]; rfl
  | cons c a =>
    simp only [List.mem_cons, not_or] at h
    rw [List.cons_append, nm_byte _ _ _ (fun e => h.1 e.symm), nm_run _ _ h.2]; simp [Bool.and_assoc]

theorem nm_end (a : T) (p : Bool) : nm p (a ++ [46]) = false := by
  induction a generalizing p with
  | nil => rw [List.nil_append, nm_dot]; simp [nm]
  | cons c a ih =>
    rw [List.cons_append]
    by_cases h : c = 46
    · subst h; rw [nm_dot, ih, Bool.and_false]
    · rw [nm_byte _ _ _ h, ih, Bool.and_false]

theorem okN_all : ∀ n : Fin 256, okN (UInt8.ofNat n.val) = (Host.namedB (UInt8.ofNat n.val) && decide (Ascii.lowB (UInt8.ofNat n.val) = UInt8.ofNat n.val)) := by decide +kernel

theorem okN_at (c : UInt8) : okN c = (Host.namedB c && decide (Ascii.lowB c = c)) := by
  have := okN_all ⟨c.toNat, c.toNat_lt⟩
  simp only [UInt8.ofNat_toNat] at this
  exact this

theorem all_small (l : T) : l.all okN = (l.all Host.namedB && decide (l = Ascii.lower l)) := by
  induction l with
  | nil => rfl
  | cons c r ih =>
    rw [List.all_cons, List.all_cons, ih, okN_at]
    have : (c :: r = Ascii.lower (c :: r)) ↔ (Ascii.lowB c = c ∧ r = Ascii.lower r) := by
      show (c :: r = Ascii.lowB c :: Ascii.lower r) ↔ _
      rw [List.cons.injEq]
      exact ⟨fun h => ⟨h.1.symm, h.2⟩, fun h => ⟨h.1.symm, h.2⟩⟩
    rw [decide_eq_decide.2 this, Bool.decide_and]
    cases Host.namedB c <;> cases decide (Ascii.lowB c = c) <;> cases decide (r = Ascii.lower r) <;> cases r.all Host.namedB <;> rfl

theorem nm_parts (l : T) : (decide (l = Ascii.lower l) && Host.partsB l) = nm true l := by
  refine Host.dotInd (p := fun l => (decide (l = Ascii.lower l) && Host.partsB l) = nm true l) (fun l h => ?_) (fun a r ha ih => ?_) l
  · rw [Host.parts_one _ h, nm_start _ h, all_small]
    unfold Host.namedL
    cases decide (l = Ascii.lower l) <;> cases l.all Host.namedB <;> rfl
  · rw [Host.parts_dot _ _ ha, nm_part _ _ ha, all_small, ← ih]
    have : (a ++ 46 :: r = Ascii.lower (a ++ 46 :: r)) ↔ (a = Ascii.lower a ∧ r = Ascii.lower r) := by
      have e : Ascii.lower (a ++ 46 :: r) = Ascii.lower a ++ 46 :: Ascii.lower r := by simp [Ascii.lower]; decide
      rw [e]
      constructor
      · intro h
        have hl : a.length = (Ascii.lower a).length := by simp [Ascii.lower]
        have := List.append_inj h hl
        exact ⟨this.1, (List.cons.inj this.2).2⟩
      · rintro ⟨h1, h2⟩
        rw [← h1, ← h2]
    rw [decide_eq_decide.2 this, Bool.decide_and]
    unfold Host.namedL
    cases a.all Host.namedB <;> cases a.isEmpty <;> cases decide (a = Ascii.lower a) <;> cases decide (r = Ascii.lower r) <;> cases Host.partsB r <;> rfl

theorem dom_nm (l : T) : Host.domB l = (decide (l.length ≤ 100) && (!Four.lookB l && nm true l)) := by
  rw [← nm_parts]
  unfold Host.domB
  have : (l == Ascii.lower l) = decide (l = Ascii.lower l) := by rw [Bool.eq_iff_iff]; simp
  rw [this]
  cases decide (l = Ascii.lower l) <;> cases Four.lookB l <;> rfl

/-- What a byte of a name may be. -/
theorem ways_all : ∀ n : Fin 256, let c := UInt8.ofNat n.val; let d := Ascii.digitB (n.val : Int)
    (d = true ∧ c ≠ 46 ∧ okN c = true) ∨ (d = false ∧ 97 ≤ n.val ∧ n.val ≤ 122 ∧ c ≠ 46 ∧ okN c = true) ∨ (c = 45 ∧ okN c = true) ∨ (c = 95 ∧ okN c = true) ∨ c = 46 ∨
    (d = false ∧ n.val < 97 ∧ n.val ≠ 45 ∧ n.val ≠ 95 ∧ n.val ≠ 46 ∧ c ≠ 46 ∧ okN c = false) ∨ (d = false ∧ 122 < n.val ∧ n.val ≠ 45 ∧ n.val ≠ 95 ∧ n.val ≠ 46 ∧ c ≠ 46 ∧ okN c = false) := by decide +kernel

theorem ways_at (c : UInt8) :
    (Ascii.digitB (c.toNat : Int) = true ∧ c ≠ 46 ∧ okN c = true) ∨ (Ascii.digitB (c.toNat : Int) = false ∧ 97 ≤ c.toNat ∧ c.toNat ≤ 122 ∧ c ≠ 46 ∧ okN c = true) ∨ (c = 45 ∧ okN c = true) ∨ (c = 95 ∧ okN c = true) ∨ c = 46 ∨
    (Ascii.digitB (c.toNat : Int) = false ∧ c.toNat < 97 ∧ c.toNat ≠ 45 ∧ c.toNat ≠ 95 ∧ c.toNat ≠ 46 ∧ c ≠ 46 ∧ okN c = false) ∨ (Ascii.digitB (c.toNat : Int) = false ∧ 122 < c.toNat ∧ c.toNat ≠ 45 ∧ c.toNat ≠ 95 ∧ c.toNat ≠ 46 ∧ c ≠ 46 ∧ okN c = false) := by
  have := ways_all ⟨c.toNat, c.toNat_lt⟩
  simp only [UInt8.ofNat_toNat] at this
  exact this

/-- Was the byte ahead a dot? -/
def pdot (l : T) (k : Nat) : Bool := match k with
  | 0 => true
  | k + 1 => decide (l[k]? = some 46)

theorem pdot_zero (l : T) : pdot l 0 = true := rfl

theorem list_at (s : ByteArray) (k : Nat) (h : k < s.size) : s.data.toList[k]? = some s[k] := List.getElem?_eq_getElem (l := s.data.toList) (i := k) h

theorem pdot_succ (s : ByteArray) (k : Nat) (h : k < s.size) : pdot s.data.toList (k + 1) = decide (s[k] = 46) := by
  show decide (s.data.toList[k]? = some 46) = _
  rw [list_at s k h]
  exact decide_eq_decide.2 ⟨fun e => Option.some.inj e, fun e => by rw [e]⟩

theorem nm_step (s : ByteArray) (k : Nat) (h : k < s.size) : nm (pdot s.data.toList k) (s.data.toList.drop k) = (if s[k] = 46 then !(pdot s.data.toList k) && nm (pdot s.data.toList (k + 1)) (s.data.toList.drop (k + 1)) else okN s[k] && nm (pdot s.data.toList (k + 1)) (s.data.toList.drop (k + 1))) := by
  rw [Pct.drop_cons s k h, pdot_succ s k h]
  by_cases e : s[k] = 46
  · rw [if_pos e, e, nm_dot]; rfl
  · rw [if_neg e, nm_byte _ _ _ e, decide_eq_false e]

set_option maxHeartbeats 4000000 in
theorem refName_any (s : ByteArray) (hs : s.size ≤ 1000000) (b : Bool) (hb : Host.domB s.data.toList = b) (w : World) : Calls Tryz.prog 103 #[.string s] w fun e w' => e = .returned (.bool b) ∧ w = w' := by
  obtain ⟨lk, hlk⟩ : ∃ x, Four.lookB s.data.toList = x := ⟨_, rfl⟩
  have CL := Lib.hid (fun u => Four.refLooks_at s hs lk hlk u)
  rw [dom_nm, hlk, size_list] at hb
  clear hlk
  by_cases h0 : s.size = 0
  · have e : s.data.toList = [] := List.length_eq_zero_iff.1 (by rw [size_list]; exact h0)
    rw [e] at hb
    have q0 : decide ((s.size : Int) < 1) = true := decide_eq_true (by omega)
    have : b = false := by rw [← hb]; simp [nm]
    subst this
    clear hb e
    go_enter Tryz.func103, Tryz.ntmps103
    go_wp2_with fail
    refine (CL.out _).mono ?_
    rintro e u1 ⟨rfl, hB1⟩
    go_wp2
    go_ret
    exact ⟨rfl, hB1⟩
  have q0 : decide ((s.size : Int) < 1) = false := decide_eq_false (by omega)
  by_cases h1 : s.size ≤ 100
  case neg =>
    have q1 : decide ((100 : Int) < (s.size : Int)) = true := decide_eq_true (by omega)
    have : b = false := by rw [← hb, decide_eq_false h1]; rfl
    subst this
    clear hb
    go_enter Tryz.func103, Tryz.ntmps103
    go_wp2_with fail
    refine (CL.out _).mono ?_
    rintro e u1 ⟨rfl, hB1⟩
    go_wp2
    go_ret
    exact ⟨rfl, hB1⟩
  have q1 : decide ((100 : Int) < (s.size : Int)) = false := decide_eq_false (by omega)
  rw [decide_eq_true h1, Bool.true_and] at hb
  cases lk
  case true =>
    have : b = false := by rw [← hb]; rfl
    subst this
    clear hb
    go_enter Tryz.func103, Tryz.ntmps103
    go_wp2_with fail
    refine (CL.out _).mono ?_
    rintro e u1 ⟨rfl, hB1⟩
    go_wp2
    go_ret
    exact ⟨rfl, hB1⟩
  rw [Bool.not_false, Bool.true_and] at hb
  have hp : 0 < s.size := by omega
  by_cases hf : s[0] = 46
  · have q2 : ((s[0].toNat : Int) == 46) = true := by rw [hf]; rfl
    have : b = false := by
      rw [← hb, show s.data.toList = s.data.toList.drop 0 from rfl, Pct.drop_cons s 0 hp, hf, nm_dot]; rfl
    subst this
    clear hb
    go_enter Tryz.func103, Tryz.ntmps103
    go_wp2_with fail
    refine (CL.out _).mono ?_
    rintro e u1 ⟨rfl, hB1⟩
    go_wp2
    go_ret
    exact ⟨rfl, hB1⟩
  have q2 : ((s[0].toNat : Int) == 46) = false := beq_eq_false_iff_ne.2 (fun q => hf (UInt8.toNat_inj.1 (by simpa using (by omega : s[0].toNat = 46))))
  have hl : s.size - 1 < s.size := by omega
  have hlast : s.data.toList = s.data.toList.take (s.size - 1) ++ [s[s.size - 1]] := by
    have := List.take_add_one (l := s.data.toList) (i := s.size - 1)
    rw [show s.size - 1 + 1 = s.size by omega, ← size_list, List.take_length, size_list, list_at s _ hl] at this
    exact this
  by_cases he : s[s.size - 1] = 46
  · have q3 : ((s[s.size - 1].toNat : Int) == 46) = true := by rw [he]; rfl
    have : b = false := by
      rw [← hb, hlast, he, nm_end]
    subst this
    clear hb hlast
    go_enter Tryz.func103, Tryz.ntmps103
    go_wp2_with fail
    refine (CL.out _).mono ?_
    rintro e u1 ⟨rfl, hB1⟩
    go_wp2
    go_ret
    exact ⟨rfl, hB1⟩
  have q3 : ((s[s.size - 1].toNat : Int) == 46) = false := beq_eq_false_iff_ne.2 (fun q => he (UInt8.toNat_inj.1 (by simpa using (by omega : s[s.size - 1].toNat = 46))))
  have HE := Lib.hid (show pdot s.data.toList s.size = false by
    obtain ⟨k, hk⟩ : ∃ k, s.size = k + 1 := ⟨s.size - 1, by omega⟩
    have : s[k]'(by omega) ≠ 46 := by
      intro h; apply he; simp only [hk, Nat.add_sub_cancel]; exact h
    rw [hk, pdot_succ s k (by omega), decide_eq_false this])
  have HF := Lib.hid hf
  have HB := Lib.hid (show nm (pdot s.data.toList 0) (s.data.toList.drop 0) = b from hb)
  clear hb hf he hlast
  go_enter Tryz.func103, Tryz.ntmps103
  go_wp2_with fail
  refine (CL.out _).mono ?_
  rintro e u1 ⟨rfl, hB1⟩
  go_wp2
  go_loopw [4] (fun i wr => ∃ k : Nat, k ≤ s.size ∧ i = .int .i64 k ∧ Hid (nm (pdot s.data.toList k) (s.data.toList.drop k) = b) ∧ wr = u1) (fun i _ => s.size - (intOf i).toNat)
  case atStart => exact ⟨0, Nat.zero_le _, rfl, HB, rfl⟩
  case round =>
    obtain ⟨k, hk, rfl, HJ, rfl⟩ := hrel
    by_cases hlt : k < s.size
    · have hstep := nm_step s k hlt
      rw [HJ.out] at hstep
      have HD : ∀ dg, Ascii.digitB (s[k].toNat : Int) = dg → Hid (∀ u, Calls Tryz.prog 134 #[.int .u8 (s[k].toNat : Int)] u fun e w' => e = .returned (.bool dg) ∧ u = w') := fun dg h => Lib.hid (fun u => by rw [← h]; exact Ascii.refDigit_any _ u)
      have ne (c : UInt8) (h : s[k] ≠ c) : ((s[k].toNat : Int) == (c.toNat : Int)) = false := beq_eq_false_iff_ne.2 (fun q => h (UInt8.toNat_inj.1 (by omega)))
      have hw := ways_at s[k]
      clear HJ HE
      rcases hw with ⟨hd, n46, ok⟩ | ⟨hd, h97, h122, n46, ok⟩ | ⟨e45, ok⟩ | ⟨e95, ok⟩ | e46 | ⟨hd, h97, n45, n95, m46, n46, ok⟩ | ⟨hd, h122, n45, n95, m46, n46, ok⟩
      · have CD := HD _ hd
        have q46 : ((s[k].toNat : Int) == 46) = false := ne 46 n46
        rw [if_neg n46, ok, Bool.true_and] at hstep
        have HJ := Lib.hid hstep.symm
        clear HD ne hstep hd n46 ok
        go_wp2_with (go_at_call 134; refine (CD.out _).mono ?_; rintro e u2 ⟨rfl, rfl⟩)
        go_roundw
        case rel => exact ⟨k + 1, by omega, by go_num, HJ, trivial⟩
        case measure => simp [intOf]; omega
      · have CD := HD _ hd
        have q46 : ((s[k].toNat : Int) == 46) = false := ne 46 n46
        have ql : decide ((s[k].toNat : Int) < 97) = false := decide_eq_false (by omega)
        have qg : decide ((122 : Int) < (s[k].toNat : Int)) = false := decide_eq_false (by omega)
        rw [if_neg n46, ok, Bool.true_and] at hstep
        have HJ := Lib.hid hstep.symm
        clear HD ne hstep hd n46 ok
        go_wp2_with (go_at_call 134; refine (CD.out _).mono ?_; rintro e u2 ⟨rfl, rfl⟩)
        go_roundw
        case rel => exact ⟨k + 1, by omega, by go_num, HJ, trivial⟩
        case measure => simp [intOf]; omega
      · have CD := HD false (by rw [e45]; decide +kernel)
        have n46 : s[k] ≠ 46 := by rw [e45]; decide
        have q46 : ((s[k].toNat : Int) == 46) = false := ne 46 n46
        have ql : decide ((s[k].toNat : Int) < 97) = true := by rw [e45]; rfl
        have q45 : ((s[k].toNat : Int) != 45) = false := by rw [e45]; rfl
        rw [if_neg n46, ok, Bool.true_and] at hstep
        have HJ := Lib.hid hstep.symm
        clear HD ne hstep n46 ok e45
        go_wp2_with (go_at_call 134; refine (CD.out _).mono ?_; rintro e u2 ⟨rfl, rfl⟩)
        go_roundw
        case rel => exact ⟨k + 1, by omega, by go_num, HJ, trivial⟩
        case measure => simp [intOf]; omega
      · have CD := HD false (by rw [e95]; decide +kernel)
        have n46 : s[k] ≠ 46 := by rw [e95]; decide
        have q46 : ((s[k].toNat : Int) == 46) = false := ne 46 n46
        have ql : decide ((s[k].toNat : Int) < 97) = true := by rw [e95]; rfl
        have q45 : ((s[k].toNat : Int) != 45) = true := by rw [e95]; rfl
        have q95 : ((s[k].toNat : Int) != 95) = false := by rw [e95]; rfl
        rw [if_neg n46, ok, Bool.true_and] at hstep
        have HJ := Lib.hid hstep.symm
        clear HD ne hstep n46 ok e95
        go_wp2_with (go_at_call 134; refine (CD.out _).mono ?_; rintro e u2 ⟨rfl, rfl⟩)
        go_roundw
        case rel => exact ⟨k + 1, by omega, by go_num, HJ, trivial⟩
        case measure => simp [intOf]; omega
      · have CD := HD false (by rw [e46]; decide +kernel)
        have q46 : ((s[k].toNat : Int) == 46) = true := by rw [e46]; rfl
        have ql : decide ((s[k].toNat : Int) < 97) = true := by rw [e46]; rfl
        have q45 : ((s[k].toNat : Int) != 45) = true := by rw [e46]; rfl
        have q95 : ((s[k].toNat : Int) != 95) = true := by rw [e46]; rfl
        have qn46 : ((s[k].toNat : Int) != 46) = false := by rw [e46]; rfl
        rw [if_pos e46] at hstep
        cases k with
        | zero => exact absurd e46 HF.out
        | succ j =>
          have hj : j < s.size := by omega
          have ej : ((j + 1 : Nat) : Int) - 1 = (j : Int) := by omega
          rw [pdot_succ s j hj] at hstep
          by_cases hp46 : s[j] = 46
          · have qp : ((s[j].toNat : Int) == 46) = true := by rw [hp46]; rfl
            have : b = false := by rw [hstep, hp46]; rfl
            subst this
            clear HD ne hstep e46 hp46
            go_wp2_with (go_at_call 134; refine (CD.out _).mono ?_; rintro e u2 ⟨rfl, rfl⟩)
            go_ret
            exact ⟨rfl, hB1⟩
          · have qp : ((s[j].toNat : Int) == 46) = false := beq_eq_false_iff_ne.2 (fun q => hp46 (UInt8.toNat_inj.1 (by simpa using (by omega : s[j].toNat = 46))))
            rw [decide_eq_false hp46, Bool.not_false, Bool.true_and] at hstep
            have HJ := Lib.hid hstep.symm
            clear HD ne hstep e46 hp46
            go_wp2_with (go_at_call 134; refine (CD.out _).mono ?_; rintro e u2 ⟨rfl, rfl⟩)
            go_roundw
            case rel => exact ⟨j + 1 + 1, by omega, by go_num, HJ, trivial⟩
            case measure => simp [intOf]; omega
      · have CD := HD _ hd
        have ql : decide ((s[k].toNat : Int) < 97) = true := decide_eq_true (by omega)
        have q45 : ((s[k].toNat : Int) != 45) = true := bne_iff_ne.2 (by omega)
        have q95 : ((s[k].toNat : Int) != 95) = true := bne_iff_ne.2 (by omega)
        have q46 : ((s[k].toNat : Int) != 46) = true := bne_iff_ne.2 (by omega)
        rw [if_neg n46, ok, Bool.false_and] at hstep
        subst hstep
        clear HD ne hd n46 ok
        go_wp2_with (go_at_call 134; refine (CD.out _).mono ?_; rintro e u2 ⟨rfl, rfl⟩)
        go_ret
        exact ⟨rfl, hB1⟩
      · have CD := HD _ hd
        have ql : decide ((s[k].toNat : Int) < 97) = false := decide_eq_false (by omega)
        have qg : decide ((122 : Int) < (s[k].toNat : Int)) = true := decide_eq_true (by omega)
        have q45 : ((s[k].toNat : Int) != 45) = true := bne_iff_ne.2 (by omega)
        have q95 : ((s[k].toNat : Int) != 95) = true := bne_iff_ne.2 (by omega)
        have q46 : ((s[k].toNat : Int) != 46) = true := bne_iff_ne.2 (by omega)
        rw [if_neg n46, ok, Bool.false_and] at hstep
        subst hstep
        clear HD ne hd n46 ok
        go_wp2_with (go_at_call 134; refine (CD.out _).mono ?_; rintro e u2 ⟨rfl, rfl⟩)
        go_ret
        exact ⟨rfl, hB1⟩
    · obtain rfl : k = s.size := by omega
      have : b = true := by
        have := HJ.out
        rw [HE.out, List.drop_eq_nil_of_le (by rw [size_list]; exact Nat.le_refl _)] at this
        rw [← this]; rfl
      subst this
      go_wp2
      go_ret
      exact ⟨rfl, hB1⟩

end Go.Proofs.YtlkikfdbjpjpaaaGreatDoor.Show
