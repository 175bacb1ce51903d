/-
  Layer 15, plain: the policy that counts, levels by policy and way, the most, who is stricter, which level two meet in. Functions of numbers; nothing of the program.
-/
import Derived.Test.YtbmnhmbicefemaaGreatDoorProg
import Derived.WalkKit
import Derived.Lib.Hide
namespace Go.Proofs.YtbmnhmbicefemaaGreatDoor.Policy
set_option linter.unusedSimpArgs false
set_option linter.unusedVariables false
set_option maxRecDepth 100000


/-- The policy that counts. -/
def uN (p : Int) : Nat := if 1 ≤ p ∧ p ≤ 8 then p.toNat else 7

theorem uN_in (p : Int) (h : 1 ≤ p ∧ p ≤ 8) : ((uN p : Nat) : Int) = p := by unfold uN; rw [if_pos h]; omega

theorem uN_out (p : Int) (h : ¬ (1 ≤ p ∧ p ≤ 8)) : uN p = 7 := by unfold uN; rw [if_neg h]

theorem uN_le (p : Int) : uN p ≤ 8 := by unfold uN; split <;> omega

theorem uN_ge (p : Int) : 1 ≤ uN p := by unfold uN; split <;> omega

theorem uN_twice (p : Int) : uN (uN p : Nat) = uN p := by
  have h1 := uN_le p
  have h2 := uN_ge p
  generalize uN p = k at h1 h2 ⊢
  unfold uN
  rw [if_pos (by omega)]
  omega

/-- A policy's levels: to another origin, to the same, down to another, down to the same. -/
def rowL (k : Nat) : List Int := match k with
  | 2 => [2, 2, 0, 0]
  | 3 => [0, 2, 0, 2]
  | 4 => [1, 1, 1, 1]
  | 5 => [1, 1, 0, 0]
  | 6 => [1, 2, 1, 2]
  | 7 => [1, 2, 0, 2]
  | 8 => [2, 2, 2, 2]
  | _ => [0, 0, 0, 0]

theorem rowL_len (k : Nat) : (rowL k).length = 4 := by unfold rowL; split <;> rfl

def lev (k j : Nat) : Int := (rowL k).getD j 0

def wayN (s d : Bool) : Nat := (if s then 1 else 0) + (if d then 2 else 0)

theorem way_lt (s d : Bool) : wayN s d < 4 := by cases s <;> cases d <;> decide

def allowI (p : Int) (s d : Bool) : Int := lev (uN p) (wayN s d)

/-- The most of the first j ways. -/
def mostTo (k : Nat) : Nat → Int
  | 0 => 0
  | j + 1 => max (mostTo k j) (lev k j)

def mostI (p : Int) : Int := mostTo (uN p) 4

def strictTo (k l n : Nat) : Bool := (List.range n).all fun j => decide (lev k j ≤ lev l j)

def strictB (p q : Int) : Bool := strictTo (uN p) (uN q) 4

theorem strictTo_zero (k l : Nat) : strictTo k l 0 = true := rfl

theorem strictTo_next (k l n : Nat) (h : strictTo k l n = true) : strictTo k l (n + 1) = decide (lev k n ≤ lev l n) := by
  unfold strictTo at *
  rw [List.range_succ, List.all_append, h]
  simp

theorem strictTo_fail (k l n m : Nat) (hn : n < m) (h : lev l n < lev k n) : strictTo k l m = false := by
  unfold strictTo
  rw [List.all_eq_false]
  exact ⟨n, List.mem_range.2 hn, by simp; omega⟩

def meetI (a b : Int) : Int := if 0 ≤ a ∧ a < 3 ∧ 0 ≤ b ∧ b < 3 then min a b else 0

theorem lev_small (k j : Nat) : 0 ≤ lev k j ∧ lev k j < 3 := by
  have h : ∀ z ∈ rowL k, 0 ≤ z ∧ z < 3 := by unfold rowL; split <;> decide
  unfold lev
  rw [List.getD_eq_getElem?_getD]
  cases e : (rowL k)[j]? with
  | none => exact ⟨Int.le_refl _, by decide⟩
  | some z => exact h z (List.mem_of_getElem? e)

/-- What holds of each of the eight policies holds of the one that counts. -/
theorem each (P : Nat → Prop) (h : ∀ k ∈ [1, 2, 3, 4, 5, 6, 7, 8], P k) (p : Int) : P (uN p) := by
  apply h
  have h1 := uN_le p
  have h2 := uN_ge p
  generalize uN p = k at h1 h2
  simp
  omega

/-! ### What the laws ask -/

theorem less_same (p : Int) (s d : Bool) : allowI p s d ≤ allowI p true d := each (fun k => ∀ s d, lev k (wayN s d) ≤ lev k (wayN true d)) (by decide) p s d

theorem less_down (p : Int) (s d : Bool) : allowI p s d ≤ allowI p s false := each (fun k => ∀ s d, lev k (wayN s d) ≤ lev k (wayN s false)) (by decide) p s d

theorem less_most (p : Int) (s d : Bool) : allowI p s d ≤ mostI p := each (fun k => ∀ s d, lev k (wayN s d) ≤ mostTo k 4) (by decide) p s d

theorem most_same (p : Int) : allowI p true false = mostI p := each (fun k => lev k (wayN true false) = mostTo k 4) (by decide) p

theorem allow_usual (p : Int) (s d : Bool) : allowI (uN p : Nat) s d = allowI p s d := by unfold allowI; rw [uN_twice]

theorem strict_self (p : Int) : strictB p p = true := each (fun k => strictTo k k 4 = true) (by decide) p

theorem strict_trans (p q r : Int) (h : strictB p q = true) (h' : strictB q r = true) : strictB p r = true :=
  each (fun k => ∀ q r, strictTo k (uN q) 4 = true → strictTo (uN q) (uN r) 4 = true → strictTo k (uN r) 4 = true) (fun k hk q r =>
    each (fun l => ∀ r, strictTo k l 4 = true → strictTo l (uN r) 4 = true → strictTo k (uN r) 4 = true) (fun l hl r =>
      each (fun m => strictTo k l 4 = true → strictTo l m 4 = true → strictTo k m 4 = true)
        ((by decide : ∀ k ∈ [1, 2, 3, 4, 5, 6, 7, 8], ∀ l ∈ [1, 2, 3, 4, 5, 6, 7, 8], ∀ m ∈ [1, 2, 3, 4, 5, 6, 7, 8], strictTo k l 4 = true → strictTo l m 4 = true → strictTo k m 4 = true) k hk l hl) r) q r) p q r h h'

theorem strict_never (p : Int) : strictB 1 p = true := each (fun k => strictTo 1 k 4 = true) (by decide) p

theorem strict_all (p : Int) : strictB p 8 = true := each (fun k => strictTo k 8 4 = true) (by decide) p

theorem strict_less (p q : Int) (s d : Bool) (h : strictB p q = true) : allowI p s d ≤ allowI q s d := by
  unfold strictB strictTo at h
  rw [List.all_eq_true] at h
  exact of_decide_eq_true (h (wayN s d) (List.mem_range.2 (way_lt s d)))

theorem strict_both (p q : Int) (s d : Bool) (h : strictB p q = true) (h' : strictB q p = true) : allowI p s d = allowI q s d :=
  Int.le_antisymm (strict_less p q s d h) (strict_less q p s d h')

theorem strict_apart (p q : Int) (hp : 1 ≤ p ∧ p ≤ 8) (hq : 1 ≤ q ∧ q ≤ 8) : (strictB p q && strictB q p) = decide (p = q) := by
  have h : ∀ k ∈ [1, 2, 3, 4, 5, 6, 7, 8], ∀ l ∈ [1, 2, 3, 4, 5, 6, 7, 8], (strictTo k l 4 && strictTo l k 4) = decide (k = l) := by decide
  have key : (strictTo (uN p) (uN q) 4 && strictTo (uN q) (uN p) 4) = decide (uN p = uN q) :=
    each (fun k => ∀ q, (strictTo k (uN q) 4 && strictTo (uN q) k 4) = decide (k = uN q)) (fun k hk q => each (fun l => (strictTo k l 4 && strictTo l k 4) = decide (k = l)) (h k hk) q) p q
  show (strictTo (uN p) (uN q) 4 && strictTo (uN q) (uN p) 4) = decide (p = q)
  rw [key]
  have e1 := uN_in p hp
  have e2 := uN_in q hq
  congr 1
  apply propext
  constructor <;> intro h <;> omega

theorem meet_swap (a b : Int) : meetI a b = meetI b a := by unfold meetI; split <;> split <;> omega

theorem meet_three (a b c : Int) : meetI (meetI a b) c = meetI a (meetI b c) := by unfold meetI; split <;> split <;> split <;> (try split) <;> omega

theorem meet_full (a : Int) (h : 0 ≤ a ∧ a < 3) : meetI a 2 = a := by unfold meetI; rw [if_pos (by omega)]; omega

theorem meet_self (a : Int) (h : 0 ≤ a ∧ a < 3) : meetI a a = a := by unfold meetI; rw [if_pos (by omega)]; omega

theorem most_none (p : Int) : (mostI p == 0) = (p == 1) := by
  have key : mostTo (uN p) 4 = 0 ↔ uN p = 1 := each (fun k => mostTo k 4 = 0 ↔ k = 1) (by decide) p
  have e : uN p = 1 ↔ p = 1 := by unfold uN; split <;> omega
  rw [Bool.eq_iff_iff, beq_iff_eq, beq_iff_eq]
  exact key.trans e

theorem most_origin (p : Int) : mostI p = 1 ↔ p = 4 ∨ p = 5 := by
  have key : mostTo (uN p) 4 = 1 ↔ uN p = 4 ∨ uN p = 5 := each (fun k => mostTo k 4 = 1 ↔ k = 4 ∨ k = 5) (by decide) p
  have e : (uN p = 4 ∨ uN p = 5) ↔ (p = 4 ∨ p = 5) := by unfold uN; split <;> omega
  exact key.trans e

end Go.Proofs.YtbmnhmbicefemaaGreatDoor.Policy
