/-
  The walks of the small functions of package ascii: between, capital, Digit, Alpha, Hex, the two closures.
-/
import Derived.Test.YtmhoooenolackaaProg
import Derived.Test.YtmhoooenolackaaPlain
import Derived.WalkKit
import Derived.WalkSpells
import Derived.WalkLawsBesides
import Derived.Lib.Hide
namespace Go.Proofs.Ytmhoooenolackaa
open Go.RowKit
set_option linter.unusedSimpArgs false
set_option linter.unusedVariables false

set_option maxHeartbeats 400000 in
theorem between_any (c lo hi : Int) (w : World) :
    Calls Try.prog 25 #[.int .u8 c, .int .u8 lo, .int .u8 hi] w fun e w' => e = .returned (.bool (decide (lo ≤ c) && decide (c ≤ hi))) ∧ w = w' := by
  by_cases h1 : lo ≤ c
  · by_cases h2 : c ≤ hi
    · go_enter Try.func25, Try.ntmps25
      go_wp2
      go_ret
      exact ⟨by simp [h1, h2], rfl⟩
    · have h3 : decide (c ≤ hi) = false := by simpa using h2
      go_enter Try.func25, Try.ntmps25
      go_wp2
      go_ret
      exact ⟨by simp [h1, h2], rfl⟩
  · have h3 : decide (lo ≤ c) = false := by simpa using h1
    go_enter Try.func25, Try.ntmps25
    go_wp2
    go_ret
    exact ⟨by simp [h1], rfl⟩

set_option maxHeartbeats 400000 in
theorem capital_any (c : Int) (w : World) :
    Calls Try.prog 24 #[.int .u8 c] w fun e w' => e = .returned (.bool (capB c)) ∧ w = w' := by
  go_enter Try.func24, Try.ntmps24
  go_wp2_with (go_at_call 25; refine (between_any _ _ _ _).mono ?_; rintro e w' ⟨rfl, rfl⟩)
  go_ret
  exact ⟨rfl, rfl⟩

set_option maxHeartbeats 400000 in
theorem digit_any (c : Int) (w : World) :
    Calls Try.prog 14 #[.int .u8 c] w fun e w' => e = .returned (.bool (digitB c)) ∧ w = w' := by
  go_enter Try.func14, Try.ntmps14
  go_wp2_with (go_at_call 25; refine (between_any _ _ _ _).mono ?_; rintro e w' ⟨rfl, rfl⟩)
  go_ret
  exact ⟨rfl, rfl⟩

set_option maxHeartbeats 400000 in
theorem alpha_any (c : Int) (w : World) :
    Calls Try.prog 13 #[.int .u8 c] w fun e w' => e = .returned (.bool (alphaB c)) ∧ w = w' := by
  cases hc : capB c
  · go_enter Try.func13, Try.ntmps13
    go_wp2_with (first | (go_at_call 24; refine (capital_any _ _).mono ?_; rintro e w' ⟨rfl, rfl⟩) | (go_at_call 25; refine (between_any _ _ _ _).mono ?_; rintro e w' ⟨rfl, rfl⟩))
    go_ret
    exact ⟨by simp [alphaB, hc], rfl⟩
  · go_enter Try.func13, Try.ntmps13
    go_wp2_with (first | (go_at_call 24; refine (capital_any _ _).mono ?_; rintro e w' ⟨rfl, rfl⟩) | (go_at_call 25; refine (between_any _ _ _ _).mono ?_; rintro e w' ⟨rfl, rfl⟩))
    go_ret
    exact ⟨by simp [alphaB, hc], rfl⟩

set_option maxHeartbeats 800000 in
theorem hex_any (c : Int) (h0 : 0 ≤ c) (h1 : c ≤ 255) (w : World) :
    Calls Try.prog 15 #[.int .u8 c] w fun e w' => e = .returned (.int .i64 (hexI c)) ∧ w = w' := by
  by_cases d1 : 48 ≤ c ∧ c ≤ 57
  · obtain ⟨g1, g2⟩ := d1
    go_enter Try.func15, Try.ntmps15
    go_wp2
    go_ret
    refine ⟨?_, rfl⟩
    simp [hexI, g1, g2]
  · have b1 : digitB c = false := by unfold digitB; rw [Bool.and_eq_false_iff]; simp; omega
    by_cases d2 : 97 ≤ c ∧ c ≤ 102
    · have hv := Lib.hid (show hexI c = c - 87 by unfold hexI; rw [if_neg d1, if_pos d2])
      have b2 : (decide (97 ≤ c) && decide (c ≤ 102)) = true := by simp [d2.1, d2.2]
      obtain ⟨g1, g2⟩ := d2
      clear d1
      go_enter Try.func15, Try.ntmps15
      go_wp2_with (first | (go_at_call 14; refine (digit_any _ _).mono ?_; rintro e w' ⟨rfl, rfl⟩) | (go_at_call 25; refine (between_any _ _ _ _).mono ?_; rintro e w' ⟨rfl, rfl⟩))
      go_ret
      refine ⟨?_, rfl⟩
      rw [hv.out]
      simp
      omega
    · have b2 : (decide (97 ≤ c) && decide (c ≤ 102)) = false := by rw [Bool.and_eq_false_iff]; simp; omega
      by_cases d3 : 65 ≤ c ∧ c ≤ 70
      · have hv := Lib.hid (show hexI c = c - 55 by unfold hexI; rw [if_neg d1, if_neg d2, if_pos d3])
        have b3 : (decide (65 ≤ c) && decide (c ≤ 70)) = true := by simp [d3.1, d3.2]
        obtain ⟨g1, g2⟩ := d3
        clear d1 d2
        go_enter Try.func15, Try.ntmps15
        go_wp2_with (first | (go_at_call 14; refine (digit_any _ _).mono ?_; rintro e w' ⟨rfl, rfl⟩) | (go_at_call 25; refine (between_any _ _ _ _).mono ?_; rintro e w' ⟨rfl, rfl⟩))
        go_ret
        refine ⟨?_, rfl⟩
        rw [hv.out]
        simp
        omega
      · have hv := Lib.hid (show hexI c = -1 by unfold hexI; rw [if_neg d1, if_neg d2, if_neg d3])
        have b3 : (decide (65 ≤ c) && decide (c ≤ 70)) = false := by rw [Bool.and_eq_false_iff]; simp; omega
        clear d1 d2 d3
        go_enter Try.func15, Try.ntmps15
        go_wp2_with (first | (go_at_call 14; refine (digit_any _ _).mono ?_; rintro e w' ⟨rfl, rfl⟩) | (go_at_call 25; refine (between_any _ _ _ _).mono ?_; rintro e w' ⟨rfl, rfl⟩))
        go_ret
        refine ⟨?_, rfl⟩
        rw [hv.out]
        rfl

set_option maxHeartbeats 400000 in
theorem upto1_any (c b : Int) (p : Addr) (w : World) (hc : w.cell? p = some (.int .u8 b)) :
    Calls Try.prog 32 #[.int .u8 c, .pointer (some p)] w fun e w' => e = .returned (.bool (decide (c ≤ b))) ∧ w = w' := by
  go_enter Try.func32, Try.ntmps32
  go_wp2
  go_ret
  exact ⟨rfl, rfl⟩

set_option maxHeartbeats 400000 in
theorem oneof1_any (c x y z : Int) (p q r : Addr) (w : World) (hx : w.cell? p = some (.int .u8 x)) (hy : w.cell? q = some (.int .u8 y)) (hz : w.cell? r = some (.int .u8 z)) :
    Calls Try.prog 33 #[.int .u8 c, .pointer (some p), .pointer (some q), .pointer (some r)] w fun e w' => e = .returned (.bool (c == x || c == y || c == z)) ∧ w = w' := by
  cases h1 : (c == x)
  · cases h2 : (c == y)
    · go_enter Try.func33, Try.ntmps33
      go_wp2
      go_ret
      exact ⟨by simp, rfl⟩
    · go_enter Try.func33, Try.ntmps33
      go_wp2
      go_ret
      exact ⟨by simp, rfl⟩
  · go_enter Try.func33, Try.ntmps33
    go_wp2
    go_ret
    exact ⟨by simp, rfl⟩

end Go.Proofs.Ytmhoooenolackaa
