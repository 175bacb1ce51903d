/-
  The document's own functions of layer 15.
-/
import Derived.Test.YtbnbdijgdokhhaaDoorPlLoops
namespace Go.Proofs.YtbnbdijgdokhhaaDoor.Policy
set_option linter.unusedSimpArgs false
set_option linter.unusedVariables false
set_option maxRecDepth 100000


open Go.RowKit

theorem refUsual_any (p : Int) (w : World) : Calls Tryd.prog 12 #[.int .i64 p] w fun e w' => e = .returned (.int .i64 (uN p : Nat)) ∧ w' = w := by
  by_cases h : 1 ≤ p ∧ p ≤ 8
  · have q1 : decide (p < 1) = false := decide_eq_false (by omega)
    have q2 : decide (8 < p) = false := decide_eq_false (by omega)
    rw [uN_in p h]
    clear h
    go_enter Tryd.func12, Tryd.ntmps12
    go_wp2
    go_ret
    exact ⟨rfl, rfl⟩
  · rw [uN_out p h]
    by_cases h0 : p < 1
    · have q1 : decide (p < 1) = true := decide_eq_true h0
      clear h h0
      go_enter Tryd.func12, Tryd.ntmps12
      go_wp2
      go_ret
      exact ⟨rfl, rfl⟩
    · have q1 : decide (p < 1) = false := decide_eq_false h0
      have q2 : decide (8 < p) = true := decide_eq_true (by omega)
      clear h h0
      go_enter Tryd.func12, Tryd.ntmps12
      go_wp2
      go_ret
      exact ⟨rfl, rfl⟩

theorem refAllow_lit (p : Int) (k : Nat) (hk : uN p = k) (h3 : (p == 3) = (k == 3)) (h6 : (p == 6) = (k == 6)) (hk8 : k ∈ [1, 2, 3, 4, 5, 6, 7, 8]) (s d : Bool) (w : World) :
    Calls Tryd.prog 14 #[.int .i64 p, .bool s, .bool d] w fun e w' => e = .returned (.int .i64 (lev k (wayN s d))) ∧ w' = w := by
  have cU := fun u => refUsual_any p u
  rw [hk] at cU
  have h6' : (p != 6) = !(k == 6) := by rw [← h6]; rfl
  clear hk h6
  simp only [List.mem_cons, List.not_mem_nil, or_false] at hk8
  rcases hk8 with rfl | rfl | rfl | rfl | rfl | rfl | rfl | rfl <;> cases s <;> cases d <;>
  · simp only [Nat.reduceBEq, Bool.not_true, Bool.not_false, Int.cast_ofNat_Int, Int.natCast_one] at h3 h6' cU
    go_enter Tryd.func14, Tryd.ntmps14
    go_wp2_with fail
    refine (cU _).mono ?_
    rintro e w' ⟨rfl, rfl⟩
    go_wp2
    go_ret
    exact ⟨rfl, rfl⟩

theorem refAllow_any (p : Int) (s d : Bool) (w : World) :
    Calls Tryd.prog 14 #[.int .i64 p, .bool s, .bool d] w fun e w' => e = .returned (.int .i64 (allowI p s d)) ∧ w' = w := by
  have h1 := uN_le p
  have h2 := uN_ge p
  refine refAllow_lit p (uN p) rfl ?_ ?_ ?_ s d w
  · rw [Bool.eq_iff_iff, beq_iff_eq, beq_iff_eq]
    unfold uN
    split <;> omega
  · rw [Bool.eq_iff_iff, beq_iff_eq, beq_iff_eq]
    unfold uN
    split <;> omega
  · generalize uN p = k at h1 h2
    simp
    omega

theorem refMeet_any (a b : Int) (w : World) : Calls Tryd.prog 16 #[.int .i64 a, .int .i64 b] w fun e w' => e = .returned (.int .i64 (meetI a b)) ∧ w' = w := by
  by_cases h : a < 0 ∨ b < 0 ∨ 2 < a ∨ 2 < b
  · rw [show meetI a b = 0 by unfold meetI; rw [if_neg (by omega)]]
    by_cases h1 : a < 0
    · have q1 : decide (a < 0) = true := decide_eq_true h1
      clear h h1
      go_enter Tryd.func16, Tryd.ntmps16
      go_wp2
      go_ret
      exact ⟨rfl, rfl⟩
    have q1 : decide (a < 0) = false := decide_eq_false h1
    by_cases h2 : b < 0
    · have q2 : decide (b < 0) = true := decide_eq_true h2
      clear h h1 h2
      go_enter Tryd.func16, Tryd.ntmps16
      go_wp2
      go_ret
      exact ⟨rfl, rfl⟩
    have q2 : decide (b < 0) = false := decide_eq_false h2
    by_cases h3 : 2 < a
    · have q3 : decide (2 < a) = true := decide_eq_true h3
      clear h h1 h2 h3
      go_enter Tryd.func16, Tryd.ntmps16
      go_wp2
      go_ret
      exact ⟨rfl, rfl⟩
    have q3 : decide (2 < a) = false := decide_eq_false h3
    have q4 : decide (2 < b) = true := decide_eq_true (by omega)
    clear h h1 h2 h3
    go_enter Tryd.func16, Tryd.ntmps16
    go_wp2
    go_ret
    exact ⟨rfl, rfl⟩
  · have q1 : decide (a < 0) = false := decide_eq_false (by omega)
    have q2 : decide (b < 0) = false := decide_eq_false (by omega)
    have q3 : decide (2 < a) = false := decide_eq_false (by omega)
    have q4 : decide (2 < b) = false := decide_eq_false (by omega)
    have e : meetI a b = min a b := by unfold meetI; rw [if_pos (by omega)]
    by_cases h5 : a < b
    · have q5 : decide (a < b) = true := decide_eq_true h5
      rw [show meetI a b = a by omega]
      clear h h5 e
      go_enter Tryd.func16, Tryd.ntmps16
      go_wp2
      go_ret
      exact ⟨rfl, rfl⟩
    · have q5 : decide (a < b) = false := decide_eq_false h5
      rw [show meetI a b = b by omega]
      clear h h5 e
      go_enter Tryd.func16, Tryd.ntmps16
      go_wp2
      go_ret
      exact ⟨rfl, rfl⟩

/-- The document's order of the ways. -/
def ord (i : Nat) : Nat := match i with | 0 => 1 | 1 => 0 | 2 => 3 | _ => 2

def mostR (k : Nat) : Nat → Int
  | 0 => 0
  | j + 1 => max (mostR k j) (lev k (ord j))

theorem mostR_all (p : Int) : mostR (uN p) 4 = mostTo (uN p) 4 := each (fun k => mostR k 4 = mostTo k 4) (by decide) p

/-- The ways as the loop tells them. -/
theorem ord_way (i : Nat) (h : i < 4) : wayN ((i : Int) % 2 == 0) ((i : Int) / 2 == 1) = ord i := by
  match i, h with
  | 0, _ => rfl
  | 1, _ => rfl
  | 2, _ => rfl
  | 3, _ => rfl

set_option maxRecDepth 100000 in
set_option maxHeartbeats 2000000 in
theorem refMost_any (p : Int) (w : World) : Calls Tryd.prog 18 #[.int .i64 p] w fun e w' => e = .returned (.int .i64 (mostI p)) ∧ w' = w := by
  have cA := fun s d u => refAllow_any p s d u
  unfold allowI at cA
  show Calls Tryd.prog 18 #[.int .i64 p] w fun e w' => e = .returned (.int .i64 (mostTo (uN p) 4)) ∧ w' = w
  rw [← mostR_all]
  generalize uN p = k at *
  go_enter Tryd.func18, Tryd.ntmps18
  go_wp2
  go_loopw [3, 4, 5] (fun m i _ wr => ∃ j : Nat, j ≤ 4 ∧ i = .int .i64 j ∧ m = .int .i64 (mostR k j) ∧ wr = w) (fun _ i _ _ => 4 - (intOf i).toNat)
  case atStart => exact ⟨0, Nat.zero_le _, rfl, rfl, rfl⟩
  case round =>
    obtain ⟨j, hj, rfl, rfl, rfl⟩ := hrel
    by_cases hlt : j < 4
    · have t1 : decide ((j : Int) < 4) = true := decide_eq_true (by omega)
      have hm : mostR k (j + 1) = max (mostR k j) (lev k (ord j)) := rfl
      have cB := cA ((j : Int) % 2 == 0) ((j : Int) / 2 == 1)
      rw [ord_way j hlt] at cB
      generalize lev k (ord j) = l at *
      by_cases hab : mostR k j < l
      · have q : decide (mostR k j < l) = true := decide_eq_true hab
        have HM := Lib.hid (show mostR k (j + 1) = l by rw [hm]; omega)
        clear hm
        go_wp2_with fail
        refine (cB _).mono ?_
        rintro e w' ⟨rfl, rfl⟩
        go_wp2
        go_roundw
        case rel => exact ⟨j + 1, by omega, by go_num, by rw [HM.out], trivial⟩
        case measure => simp [intOf]; omega
      · have q : decide (mostR k j < l) = false := decide_eq_false hab
        have HM := Lib.hid (show mostR k (j + 1) = mostR k j by rw [hm]; omega)
        clear hm
        go_wp2_with fail
        refine (cB _).mono ?_
        rintro e w' ⟨rfl, rfl⟩
        go_wp2
        go_roundw
        case rel => exact ⟨j + 1, by omega, by go_num, by rw [HM.out], trivial⟩
        case measure => simp [intOf]; omega
    · obtain rfl : j = 4 := by omega
      have t1 : decide ((4 : Int) < 4) = false := rfl
      go_wp2
      go_ret
      exact ⟨rfl, rfl⟩

def strictR (k l n : Nat) : Bool := (List.range n).all fun j => decide (lev k (ord j) ≤ lev l (ord j))

theorem strictR_next (k l n : Nat) (h : strictR k l n = true) : strictR k l (n + 1) = decide (lev k (ord n) ≤ lev l (ord n)) := by
  unfold strictR at *
  rw [List.range_succ, List.all_append, h]
  simp

theorem strictR_fail (k l n m : Nat) (hn : n < m) (h : lev l (ord n) < lev k (ord n)) : strictR k l m = false := by
  unfold strictR
  rw [List.all_eq_false]
  exact ⟨n, List.mem_range.2 hn, by simp; omega⟩

theorem strictR_all (p q : Int) : strictR (uN p) (uN q) 4 = strictTo (uN p) (uN q) 4 :=
  each (fun k => ∀ q, strictR k (uN q) 4 = strictTo k (uN q) 4) (fun k hk q => each (fun l => strictR k l 4 = strictTo k l 4)
    ((by decide : ∀ k ∈ [1, 2, 3, 4, 5, 6, 7, 8], ∀ l ∈ [1, 2, 3, 4, 5, 6, 7, 8], strictR k l 4 = strictTo k l 4) k hk) q) p q

set_option maxRecDepth 100000 in
set_option maxHeartbeats 2000000 in
theorem refStrict_any (p q : Int) (w : World) : Calls Tryd.prog 10 #[.int .i64 p, .int .i64 q] w fun e w' => e = .returned (.bool (strictB p q)) ∧ w' = w := by
  have cA := fun s d u => refAllow_any p s d u
  have cB := fun s d u => refAllow_any q s d u
  unfold allowI at cA cB
  show Calls Tryd.prog 10 #[.int .i64 p, .int .i64 q] w fun e w' => e = .returned (.bool (strictTo (uN p) (uN q) 4)) ∧ w' = w
  rw [← strictR_all]
  generalize uN p = k at *
  generalize uN q = l at *
  go_enter Tryd.func10, Tryd.ntmps10
  go_wp2
  go_loopw [5] (fun i wr => ∃ j : Nat, j ≤ 4 ∧ i = .int .i64 j ∧ Hid (strictR k l j = true) ∧ wr = w) (fun i _ => 4 - (intOf i).toNat)
  case atStart => exact ⟨0, Nat.zero_le _, rfl, Lib.hid rfl, rfl⟩
  case round =>
    obtain ⟨j, hj, rfl, HS, rfl⟩ := hrel
    by_cases hlt : j < 4
    · have t1 : decide ((j : Int) < 4) = true := decide_eq_true (by omega)
      have hm := strictR_next k l j HS.out
      have hf := strictR_fail k l j 4 hlt
      have cX := cA ((j : Int) % 2 == 0) ((j : Int) / 2 == 1)
      have cY := cB ((j : Int) % 2 == 0) ((j : Int) / 2 == 1)
      rw [ord_way j hlt] at cX cY
      clear cA cB
      generalize lev k (ord j) = a at *
      generalize lev l (ord j) = b at *
      by_cases hab : b < a
      · have q : decide (b < a) = true := decide_eq_true hab
        have HF := Lib.hid (hf hab)
        clear hf hm HS
        go_wp2_with fail
        refine (cX _).mono ?_
        rintro e w' ⟨rfl, rfl⟩
        go_wp2_with fail
        refine (cY _).mono ?_
        rintro e w' ⟨rfl, rfl⟩
        go_wp2
        go_ret
        exact ⟨by rw [HF.out]; rfl, rfl⟩
      · have q : decide (b < a) = false := decide_eq_false hab
        have HM := Lib.hid (show strictR k l (j + 1) = true by rw [hm]; exact decide_eq_true (by omega))
        clear hf hm HS
        go_wp2_with fail
        refine (cX _).mono ?_
        rintro e w' ⟨rfl, rfl⟩
        go_wp2_with fail
        refine (cY _).mono ?_
        rintro e w' ⟨rfl, rfl⟩
        go_wp2
        go_roundw
        case rel => exact ⟨j + 1, by omega, by go_num, HM, trivial⟩
        case measure => simp [intOf]; omega
    · obtain rfl : j = 4 := by omega
      have t1 : decide ((4 : Int) < 4) = false := rfl
      go_wp2
      go_ret
      exact ⟨by rw [HS.out]; rfl, rfl⟩

set_option maxRecDepth 100000 in
set_option maxHeartbeats 2000000 in
/-- The chapter's example. -/
theorem awake_calls (w : World) (hT : TabAt w) : Calls Tryd.prog 9 #[] w fun e w' => e = .returned (.bool true) ∧ Below w.heap.size w w' := by
  have c1 := fun u hu => allow_any 7 true false u hu
  have c2 := fun u hu => allow_any 7 false false u hu
  have c3 := fun u hu => allow_any 7 false true u hu
  have c4 := fun u => usual_any 0 u
  have c5 := fun u => meet_any 1 2 u
  have c6 := fun u hu => most_any 7 u hu
  have c7 := fun u hu => strict_any 1 7 u hu
  have c8 := fun u hu => strict_any 7 1 u hu
  rw [show allowI 7 true false = 2 from rfl] at c1
  rw [show allowI 7 false false = 1 from rfl] at c2
  rw [show allowI 7 false true = 0 from rfl] at c3
  rw [show ((uN 0 : Nat) : Int) = 7 from rfl] at c4
  rw [show meetI 1 2 = 1 from rfl] at c5
  rw [show mostI 7 = 2 from rfl] at c6
  rw [show strictB 1 7 = true from rfl] at c7
  rw [show strictB 7 1 = false from rfl] at c8
  have HT := Lib.hid hT
  clear hT
  go_enter Tryd.func9, Tryd.ntmps9
  go_wp2_with fail
  refine (c1 _ HT.out).mono ?_
  rintro e w1 ⟨rfl, hB⟩
  have HT1 := Lib.hid (HT.out.later hB)
  have HB1 := Lib.hid hB
  clear hB
  go_wp2_with fail
  refine (c2 _ HT1.out).mono ?_
  rintro e w2 ⟨rfl, hB⟩
  have HT2 := Lib.hid (HT1.out.later hB)
  have HB2 := Lib.hid (HB1.out.trans (hB.mono HB1.out.size))
  clear hB HB1 HT1
  go_wp2_with fail
  refine (c3 _ HT2.out).mono ?_
  rintro e w3 ⟨rfl, hB⟩
  have HT3 := Lib.hid (HT2.out.later hB)
  have HB3 := Lib.hid (HB2.out.trans (hB.mono HB2.out.size))
  clear hB HB2 HT2
  go_wp2_with fail
  refine (c4 _).mono ?_
  rintro e w' ⟨rfl, rfl⟩
  go_wp2_with fail
  refine (c5 _).mono ?_
  rintro e w' ⟨rfl, rfl⟩
  go_wp2_with fail
  refine (c6 _ HT3.out).mono ?_
  rintro e w4 ⟨rfl, hB⟩
  have HT4 := Lib.hid (HT3.out.later hB)
  have HB4 := Lib.hid (HB3.out.trans (hB.mono HB3.out.size))
  clear hB HB3 HT3
  go_wp2_with fail
  refine (c7 _ HT4.out).mono ?_
  rintro e w5 ⟨rfl, hB⟩
  have HT5 := Lib.hid (HT4.out.later hB)
  have HB5 := Lib.hid (HB4.out.trans (hB.mono HB4.out.size))
  clear hB HB4 HT4
  go_wp2_with fail
  refine (c8 _ HT5.out).mono ?_
  rintro e w6 ⟨rfl, hB⟩
  have HB6 := Lib.hid (HB5.out.trans (hB.mono HB5.out.size))
  clear hB HB5 HT5
  go_wp2
  go_ret
  exact ⟨rfl, HB6.out⟩

end Go.Proofs.YtbnbdijgdokhhaaDoor.Policy
