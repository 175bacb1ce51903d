/-
  The document's answers for single bytes, and its Trim.
-/
import Derived.Test.YtmhoooenolackaaAid
namespace Go.Proofs.Ytmhoooenolackaa
open Go.RowKit
set_option linter.unusedSimpArgs false
set_option linter.unusedVariables false

set_option maxHeartbeats 800000 in
theorem refDigit_any (c : Int) (w : World) :
    Calls Try.prog 11 #[.int .u8 c] w fun e w' => e = .returned (.bool (digitB c)) ∧ w = w' := by
  by_cases h1 : 48 ≤ c
  · by_cases h2 : c ≤ 57
    · have hv := Lib.hid (show digitB c = true by simp [digitB, h1, h2])
      go_enter Try.func11, Try.ntmps11
      go_wp2
      go_ret
      exact ⟨by rw [hv.out]; simp [h2], rfl⟩
    · have hv := Lib.hid (show digitB c = false by simp [digitB, h2])
      have h3 : decide (c ≤ 57) = false := by simpa using h2
      clear h2
      go_enter Try.func11, Try.ntmps11
      go_wp2
      go_ret
      exact ⟨by rw [hv.out]; simp, rfl⟩
  · have hv := Lib.hid (show digitB c = false by simp [digitB, h1])
    have h3 : decide (48 ≤ c) = false := by simpa using h1
    clear h1
    go_enter Try.func11, Try.ntmps11
    go_wp2
    go_ret
    exact ⟨by rw [hv.out]; simp, rfl⟩

set_option maxHeartbeats 800000 in
theorem refAlpha_any (c : Int) (w : World) :
    Calls Try.prog 10 #[.int .u8 c] w fun e w' => e = .returned (.bool (alphaB c)) ∧ w = w' := by
  by_cases h1 : 65 ≤ c
  · have d1 : decide (65 ≤ c) = true := by simpa using h1
    by_cases h2 : c ≤ 90
    · have hv := Lib.hid (show alphaB c = true by simp [alphaB, capB, h1, h2])
      have d2 : decide (c ≤ 90) = true := by simpa using h2
      go_enter Try.func10, Try.ntmps10
      go_wp2
      go_ret
      exact ⟨by rw [hv.out]; simp, rfl⟩
    · have d2 : decide (c ≤ 90) = false := by simpa using h2
      by_cases h3 : 97 ≤ c
      · have d3 : decide (97 ≤ c) = true := by simpa using h3
        by_cases h4 : c ≤ 122
        · have hv := Lib.hid (show alphaB c = true by simp [alphaB, capB, h3, h4])
          have d4 : decide (c ≤ 122) = true := by simpa using h4
          clear h2
          go_enter Try.func10, Try.ntmps10
          go_wp2
          go_ret
          exact ⟨by rw [hv.out]; simp, rfl⟩
        · have hv := Lib.hid (show alphaB c = false by simp [alphaB, capB, h2, h4])
          have d4 : decide (c ≤ 122) = false := by simpa using h4
          clear h2 h4
          go_enter Try.func10, Try.ntmps10
          go_wp2
          go_ret
          exact ⟨by rw [hv.out]; simp, rfl⟩
      · have hv := Lib.hid (show alphaB c = false by simp [alphaB, capB, h2, h3])
        have d3 : decide (97 ≤ c) = false := by simpa using h3
        clear h2 h3
        go_enter Try.func10, Try.ntmps10
        go_wp2
        go_ret
        exact ⟨by rw [hv.out]; simp, rfl⟩
  · have d1 : decide (65 ≤ c) = false := by simpa using h1
    have hv := Lib.hid (show alphaB c = false by simp [alphaB, capB, h1]; omega)
    have d3 : decide (97 ≤ c) = false := by simp; omega
    clear h1
    go_enter Try.func10, Try.ntmps10
    go_wp2
    go_ret
    exact ⟨by rw [hv.out]; simp, rfl⟩

set_option maxHeartbeats 800000 in
theorem refHex_any (c : Int) (h0 : 0 ≤ c) (h1 : c ≤ 255) (w : World) :
    Calls Try.prog 16 #[.int .u8 c] w fun e w' => e = .returned (.int .i64 (hexI c)) ∧ w = w' := by
  have h6 : c < 48 ∨ (48 ≤ c ∧ c ≤ 57) ∨ (57 < c ∧ c < 65) ∨ (65 ≤ c ∧ c ≤ 70) ∨ (70 < c ∧ c < 97) ∨ (97 ≤ c ∧ c ≤ 102) ∨ 102 < c := by omega
  rcases h6 with h | ⟨h, h'⟩ | ⟨h, h'⟩ | ⟨h, h'⟩ | ⟨h, h'⟩ | ⟨h, h'⟩ | h
  all_goals
    have hv := Lib.hid (show hexI c = hexI c from rfl)
    go_enter Try.func16, Try.ntmps16
    go_wp2
    go_ret
    refine ⟨?_, rfl⟩
    clear hv
    unfold hexI
    simp
    repeat' split
    all_goals omega

end Go.Proofs.Ytmhoooenolackaa
