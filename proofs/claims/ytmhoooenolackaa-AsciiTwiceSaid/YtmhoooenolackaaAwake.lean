/-
  The chapter's examples answer as the chapter says (awake).
-/
import Derived.Test.YtmhoooenolackaaTop
namespace Go.Proofs.Ytmhoooenolackaa
open Go.RowKit Go.Shelf
set_option linter.unusedSimpArgs false
set_option linter.unusedVariables false

theorem ex_lower (w : World) : Calls Try.prog 17 #[.string ⟨#[65, 45, 98]⟩] w fun e W' => e = .returned (.string ⟨#[97, 45, 98]⟩) ∧ Below w.heap.size w W' := by
  have h : (lower (⟨#[65, 45, 98]⟩ : ByteArray).data.toList).toArray = #[97, 45, 98] := by decide +kernel
  have := lower_calls ⟨#[65, 45, 98]⟩ (by decide +kernel) (by decide +kernel) w
  rwa [h] at this
theorem ex_clean (w : World) : Calls Try.prog 22 #[.string ⟨#[32, 97, 9, 98, 10]⟩] w fun e W' => e = .returned (.string ⟨#[97, 98]⟩) ∧ Below w.heap.size w W' := by
  have h : (clean (⟨#[32, 97, 9, 98, 10]⟩ : ByteArray).data.toList).toArray = #[97, 98] := by decide +kernel
  have := clean_calls ⟨#[32, 97, 9, 98, 10]⟩ (by decide +kernel) (by decide +kernel) w
  rwa [h] at this
theorem ex_trim (w : World) : Calls Try.prog 20 #[.string ⟨#[32, 97, 32, 98, 32]⟩] w fun e W' => e = .returned (.string ⟨#[97, 32, 98]⟩) ∧ Below w.heap.size w W' := by
  have h : (trim (⟨#[32, 97, 32, 98, 32]⟩ : ByteArray).data.toList).toArray = #[97, 32, 98] := by decide +kernel
  have := trim_calls ⟨#[32, 97, 32, 98, 32]⟩ (by decide +kernel) (by decide +kernel) w
  rwa [h] at this
theorem ex_hex (w : World) : Calls Try.prog 15 #[.int .u8 70] w fun e W' => e = .returned (.int .i64 15) ∧ w = W' := by
  have h : hexI 70 = 15 := by decide +kernel
  have := hex_any 70 (by omega) (by omega) w
  rwa [h] at this
theorem ex_alpha (w : World) : Calls Try.prog 13 #[.int .u8 122] w fun e W' => e = .returned (.bool true) ∧ w = W' := by
  have h : alphaB 122 = true := by decide +kernel
  have := alpha_any 122 w
  rwa [h] at this
theorem ex_digit (w : World) : Calls Try.prog 14 #[.int .u8 48] w fun e W' => e = .returned (.bool true) ∧ w = W' := by
  have h : digitB 48 = true := by decide +kernel
  have := digit_any 48 w
  rwa [h] at this
theorem ex_same (w : World) : Calls Try.prog 19 #[.string ⟨#[97, 66]⟩, .string ⟨#[65, 98]⟩] w fun e W' => e = .returned (.bool true) ∧ Below w.heap.size w W' := by
  have h : (lower (⟨#[97, 66]⟩ : ByteArray).data.toList == lower (⟨#[65, 98]⟩ : ByteArray).data.toList) = true := by decide +kernel
  have := same_calls ⟨#[97, 66]⟩ ⟨#[65, 98]⟩ (by decide +kernel) (by decide +kernel) (by decide +kernel) (by decide +kernel) w
  rwa [h] at this

set_option maxHeartbeats 800000 in
theorem awake_calls (w : World) :
    Calls Try.prog 9 #[] w fun e W' => e = .returned (.bool true) ∧ Below w.heap.size w W' := by
  go_enter Try.func9, Try.ntmps9
  go_wp2_with fail
  refine (ex_lower _).mono ?_
  rintro e w1 ⟨rfl, hB1⟩
  go_wp2_with fail
  refine (ex_clean _).mono ?_
  rintro e w2 ⟨rfl, hB2⟩
  go_wp2_with fail
  refine (ex_trim _).mono ?_
  rintro e w3 ⟨rfl, hB3⟩
  go_wp2_with fail
  refine (ex_hex _).mono ?_
  rintro e w3 ⟨rfl, rfl⟩
  go_wp2_with fail
  refine (ex_alpha _).mono ?_
  rintro e w3 ⟨rfl, rfl⟩
  go_wp2_with fail
  refine (ex_digit _).mono ?_
  rintro e w3 ⟨rfl, rfl⟩
  go_wp2_with fail
  refine (ex_same _).mono ?_
  rintro e w4 ⟨rfl, hB4⟩
  have hB := Lib.hid (((hB1.trans (hB2.mono hB1.size)).trans (hB3.mono (Nat.le_trans hB1.size hB2.size))).trans (hB4.mono (Nat.le_trans hB1.size (Nat.le_trans hB2.size hB3.size))))
  go_wp2
  go_ret
  exact ⟨rfl, hB.out⟩

end Go.Proofs.Ytmhoooenolackaa
